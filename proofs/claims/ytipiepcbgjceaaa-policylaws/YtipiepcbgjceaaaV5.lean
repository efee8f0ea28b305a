/- What the law PolicyLaws answers: true; nothing is asked of the input but what an argument is. -/
import Derived.Test.YtipiepcbgjceaaaV1
import Derived.BigRegion
import Derived.Deep.Cut
import Derived.Test.YtipiepcbgjceaaaRow
import Derived.Test.YtipiepcbgjceaaaOZ
set_option linter.unusedVariables false
set_option linter.unusedSimpArgs false
namespace Go.Proofs.Ytipiepcbgjceaaa
open Go.RowKit Go.Joins Go.Sort

abbrev aobj47 (v0 v1 v2 : Value) : Obj := .cells #[v0, v1, v2] 47
abbrev kobj (x y z : Nd) : Obj := .cells #[.int .i64 x.op, .int .i64 x.f, .int .u16 x.n, x.kv, .int .i64 y.op, .int .i64 y.f, .int .u16 y.n, y.kv, .int .i64 z.op, .int .i64 z.f, .int .u16 z.n, z.kv] 48
abbrev zNd : Nd := ⟨0, 0, 0, .slice none 0 0⟩
theorem row3a {w : World} {g : Nat} {x0 x1 x2 : Value} {t : TypeId} (h : w.heap[g]? = some (.cells #[x0, x1, x2] t)) : w.cell? ⟨g, 0, none⟩ = some x0 ∧ w.cell? ⟨g, 1, none⟩ = some x1 ∧ w.cell? ⟨g, 2, none⟩ = some x2 := by
  refine ⟨?_, ?_, ?_⟩ <;> (rw [cell_of_row _ _ _ _ _ _ h]; rfl)
theorem sps_below {w w' : World} {v : Value} {l : List Sp} (h : Sps w v l) (hb : Below w.heap.size w w') : Sps w' v l := by
  obtain ⟨sa, sc, e, hc⟩ := h
  refine ⟨sa, sc, e, fun k hk => ?_⟩
  obtain ⟨b, off, e1, h1, h2⟩ := hc k hk
  exact ⟨b, off, e1, Nat.lt_of_lt_of_le h1 hb.size, fun j h4 => by rw [hb.cell (p := ⟨b, off + k * 4 + j, none⟩) h1]; exact h2 j h4⟩

theorem kset0 {w : World} {g : Nat} {x y z : Nd} (u : Nd) (h : w.heap[g]? = some (kobj x y z)) :
    ((((w.setCell ⟨g, 0, none⟩ (.int .i64 u.op)).setCell ⟨g, 1, none⟩ (.int .i64 u.f)).setCell ⟨g, 2, none⟩ (.int .u16 u.n)).setCell ⟨g, 3, none⟩ u.kv).heap[g]? = some (kobj u y z) := by
  have h0 := heap_setCell_same w g 0 _ _ (.int .i64 u.op) h
  have h1 := heap_setCell_same _ g 1 _ _ (.int .i64 u.f) h0
  have h2 := heap_setCell_same _ g 2 _ _ (.int .u16 u.n) h1
  have h3 := heap_setCell_same _ g 3 _ _ u.kv h2
  simpa using h3
theorem kfrz0 {w : World} {g : Nat} {x y z : Nd} (h : w.heap[g]? = some (kobj x y z)) : w.frozen? ⟨g, 0, none⟩ = false ∧ w.frozen? ⟨g, 1, none⟩ = false ∧ w.frozen? ⟨g, 2, none⟩ = false ∧ w.frozen? ⟨g, 3, none⟩ = false := by
  have f := fun j => frozen_of_row w g j _ _ h
  exact ⟨f 0, f 1, f 2, f 3⟩
theorem kset1 {w : World} {g : Nat} {x y z : Nd} (u : Nd) (h : w.heap[g]? = some (kobj x y z)) :
    ((((w.setCell ⟨g, 4, none⟩ (.int .i64 u.op)).setCell ⟨g, 5, none⟩ (.int .i64 u.f)).setCell ⟨g, 6, none⟩ (.int .u16 u.n)).setCell ⟨g, 7, none⟩ u.kv).heap[g]? = some (kobj x u z) := by
  have h0 := heap_setCell_same w g 4 _ _ (.int .i64 u.op) h
  have h1 := heap_setCell_same _ g 5 _ _ (.int .i64 u.f) h0
  have h2 := heap_setCell_same _ g 6 _ _ (.int .u16 u.n) h1
  have h3 := heap_setCell_same _ g 7 _ _ u.kv h2
  simpa using h3
theorem kfrz1 {w : World} {g : Nat} {x y z : Nd} (h : w.heap[g]? = some (kobj x y z)) : w.frozen? ⟨g, 4, none⟩ = false ∧ w.frozen? ⟨g, 5, none⟩ = false ∧ w.frozen? ⟨g, 6, none⟩ = false ∧ w.frozen? ⟨g, 7, none⟩ = false := by
  have f := fun j => frozen_of_row w g j _ _ h
  exact ⟨f 4, f 5, f 6, f 7⟩
theorem kset2 {w : World} {g : Nat} {x y z : Nd} (u : Nd) (h : w.heap[g]? = some (kobj x y z)) :
    ((((w.setCell ⟨g, 8, none⟩ (.int .i64 u.op)).setCell ⟨g, 9, none⟩ (.int .i64 u.f)).setCell ⟨g, 10, none⟩ (.int .u16 u.n)).setCell ⟨g, 11, none⟩ u.kv).heap[g]? = some (kobj x y u) := by
  have h0 := heap_setCell_same w g 8 _ _ (.int .i64 u.op) h
  have h1 := heap_setCell_same _ g 9 _ _ (.int .i64 u.f) h0
  have h2 := heap_setCell_same _ g 10 _ _ (.int .u16 u.n) h1
  have h3 := heap_setCell_same _ g 11 _ _ u.kv h2
  simpa using h3
theorem kfrz2 {w : World} {g : Nat} {x y z : Nd} (h : w.heap[g]? = some (kobj x y z)) : w.frozen? ⟨g, 8, none⟩ = false ∧ w.frozen? ⟨g, 9, none⟩ = false ∧ w.frozen? ⟨g, 10, none⟩ = false ∧ w.frozen? ⟨g, 11, none⟩ = false := by
  have f := fun j => frozen_of_row w g j _ _ h
  exact ⟨f 8, f 9, f 10, f 11⟩
theorem krow {w : World} {g : Nat} {x y z : Nd} (h : w.heap[g]? = some (kobj x y z)) : (w.cell? ⟨g, 0, none⟩ = some (.int .i64 x.op) ∧ w.cell? ⟨g, 1, none⟩ = some (.int .i64 x.f) ∧ w.cell? ⟨g, 2, none⟩ = some (.int .u16 x.n) ∧ w.cell? ⟨g, 3, none⟩ = some x.kv) ∧
    (w.cell? ⟨g, 4, none⟩ = some (.int .i64 y.op) ∧ w.cell? ⟨g, 5, none⟩ = some (.int .i64 y.f) ∧ w.cell? ⟨g, 6, none⟩ = some (.int .u16 y.n) ∧ w.cell? ⟨g, 7, none⟩ = some y.kv) ∧
    w.cell? ⟨g, 8, none⟩ = some (.int .i64 z.op) ∧ w.cell? ⟨g, 9, none⟩ = some (.int .i64 z.f) ∧ w.cell? ⟨g, 10, none⟩ = some (.int .u16 z.n) ∧ w.cell? ⟨g, 11, none⟩ = some z.kv := by
  have c := fun j => cell_of_row w g j _ _ _ h
  exact ⟨⟨by simpa using c 0, by simpa using c 1, by simpa using c 2, by simpa using c 3⟩, ⟨by simpa using c 4, by simpa using c 5, by simpa using c 6, by simpa using c 7⟩, by simpa using c 8, by simpa using c 9, by simpa using c 10, by simpa using c 11⟩
theorem lit1 {w : World} {a : Pl} {x : Nd} (op : Int) (ha : PolAt All w a x) :
    PolAt All (w.alloc (.cells #[.int .i64 x.op, .int .i64 x.f, .int .u16 x.n, x.kv] 30)) (.mk op 0 0 [a]) ⟨op, 0, 0, .slice (some ⟨w.heap.size, 0, none⟩) 1 1⟩ := by
  have hbl : Below w.heap.size w (w.alloc (.cells #[.int .i64 x.op, .int .i64 x.f, .int .u16 x.n, x.kv] 30)) := (Below.refl _ w).alloc (Nat.le_refl _) _
  have hr := heap_alloc_new w (.cells #[.int .i64 x.op, .int .i64 x.f, .int .u16 x.n, x.kv] 30)
  have ho : (w.alloc (.cells #[.int .i64 x.op, .int .i64 x.f, .int .u16 x.n, x.kv] 30)).ownsRow 0 30 4 (.slice (some ⟨w.heap.size, 0, none⟩) 1 1) [x].length (flat4 [x]) :=
    ⟨rfl, .inr ⟨w.heap.size, 1, _, rfl, Nat.zero_le _, hr, Nat.le_refl _, by decide, rfl, rfl⟩⟩
  exact pol_of_own op 0 0 ho (PolsAt.one (ha.below hbl)) (fun _ _ _ => trivial) fun _ _ => trivial
theorem bcell {W w1 : World} (hb : Below W.heap.size W w1) : (∀ b o, b < W.heap.size → w1.cell? ⟨b, o, none⟩ = W.cell? ⟨b, o, none⟩) ∧ (∀ b o, b < W.heap.size → w1.frozen? ⟨b, o, none⟩ = W.frozen? ⟨b, o, none⟩) :=
  ⟨fun b o h => hb.cell (p := ⟨b, o, none⟩) h, fun b o h => hb.frozen (p := ⟨b, o, none⟩) h⟩
theorem al3 (w : World) (o0 o1 o2 : Obj) : (((w.alloc o0).alloc o1).alloc o2).drew.heap[w.heap.size]? = some o0 ∧ (((w.alloc o0).alloc o1).alloc o2).drew.heap[w.heap.size + 1]? = some o1 ∧ (((w.alloc o0).alloc o1).alloc o2).drew.heap[w.heap.size + 1 + 1]? = some o2 :=
  ⟨(Below.heap_alloc _ _ _ (by simp; omega)).trans ((Below.heap_alloc _ _ _ (by simp)).trans (heap_alloc_new w _)), (Below.heap_alloc _ _ _ (by simp)).trans (heap_alloc2_new w _ _), heap_alloc3_new w _ _ _⟩
/-- What lies there ahead of the laws. -/
structure MS (w : World) (st : List Nat) (sv : Value) (a b c : Pl) (xa xb xc : Nd) (ga gb gc gq : Nat) (q : P8) (W : World) : Prop where
  bel : Below w.heap.size w W
  ra : W.heap[ga]? = some (pobj xa)
  pa : PolAt All W a xa
  rb : W.heap[gb]? = some (pobj xb)
  pb : PolAt All W b xb
  rc : W.heap[gc]? = some (pobj xc)
  pc : PolAt All W c xc
  rq : W.heap[gq]? = some (pobj8 q)
  st : StAt W sv st
/-- A place of the array has a policy that fits. -/
def FitAt (g : Nat) (W : World) (x : Nd) : Prop := ∃ T, fitB T = true ∧ okN T ∧ sizeP T ≤ 60 ∧ PolAt (fun b => b ≠ g) W T x
theorem FitAt.below {g : Nat} {W W' : World} {x : Nd} (h : FitAt g W x) (hb : Below W.heap.size W W') : FitAt g W' x := by
  obtain ⟨T, h1, h2, h3, h4⟩ := h
  exact ⟨T, h1, h2, h3, h4.below hb⟩
theorem FitAt.set {g : Nat} {W : World} {x : Nd} (h : FitAt g W x) (j : Nat) (u : Value) : FitAt g (W.setCell ⟨g, j, none⟩ u) x := by
  obtain ⟨T, h1, h2, h3, h4⟩ := h
  exact ⟨T, h1, h2, h3, h4.set (a := ⟨g, j, none⟩) (fun h => h rfl) u⟩
/-- What lies there while the loop goes on. -/
structure KS (w : World) (g : Nat) (v0 v1 v2 : Value) (q : P8) (k : Int) (x y z : Nd) (W : World) : Prop where
  bel : Below w.heap.size w W
  rq : W.heap[w.heap.size + 1]? = some (pobj8 q)
  rl : W.heap[w.heap.size]? = some (aobj47 v0 v1 v2)
  rk : W.heap[g]? = some (kobj x y z)
  gk : w.heap.size + 2 ≤ g
  px : 0 < k → FitAt g W x
  py : 1 < k → FitAt g W y
  pz : 2 < k → FitAt g W z
theorem KS.below {w : World} {g : Nat} {v0 v1 v2 : Value} {q : P8} {k : Int} {x y z : Nd} {W W' : World} (h : KS w g v0 v1 v2 q k x y z W) (hb : Below W.heap.size W W') : KS w g v0 v1 v2 q k x y z W' :=
  ⟨h.bel.trans (hb.mono h.bel.size), (hb.block _ (heap_lt h.rq)).trans h.rq, (hb.block _ (heap_lt h.rl)).trans h.rl, (hb.block _ (heap_lt h.rk)).trans h.rk, h.gk, fun e => (h.px e).below hb, fun e => (h.py e).below hb, fun e => (h.pz e).below hb⟩
theorem KS.put0 {w : World} {g : Nat} {v0 v1 v2 : Value} {q : P8} {x y z : Nd} {W : World} (u : Nd) (h : KS w g v0 v1 v2 q 0 x y z W) (hu : FitAt g W u) : KS w g v0 v1 v2 q 1 u y z ((((W.setCell ⟨g, 0, none⟩ (.int .i64 u.op)).setCell ⟨g, 1, none⟩ (.int .i64 u.f)).setCell ⟨g, 2, none⟩ (.int .u16 u.n)).setCell ⟨g, 3, none⟩ u.kv) :=
  ⟨(((h.bel.setCell (by have := h.gk; show w.heap.size ≤ g; omega) _).setCell (by have := h.gk; show w.heap.size ≤ g; omega) _).setCell (by have := h.gk; show w.heap.size ≤ g; omega) _).setCell (by have := h.gk; show w.heap.size ≤ g; omega) _,
    by have hne : w.heap.size + 1 ≠ g := (by have := h.gk; omega); rw [heap_setCell_other _ _ _ _ hne, heap_setCell_other _ _ _ _ hne, heap_setCell_other _ _ _ _ hne, heap_setCell_other _ _ _ _ hne]; exact h.rq, by have hne : w.heap.size ≠ g := (by have := h.gk; omega); rw [heap_setCell_other _ _ _ _ hne, heap_setCell_other _ _ _ _ hne, heap_setCell_other _ _ _ _ hne, heap_setCell_other _ _ _ _ hne]; exact h.rl, kset0 u h.rk, h.gk, fun _ => ((((hu.set 0 _).set 1 _).set 2 _).set 3 _), fun e => absurd e (by omega), fun e => absurd e (by omega)⟩
theorem KS.put1 {w : World} {g : Nat} {v0 v1 v2 : Value} {q : P8} {x y z : Nd} {W : World} (u : Nd) (h : KS w g v0 v1 v2 q 1 x y z W) (hu : FitAt g W u) : KS w g v0 v1 v2 q 2 x u z ((((W.setCell ⟨g, 4, none⟩ (.int .i64 u.op)).setCell ⟨g, 5, none⟩ (.int .i64 u.f)).setCell ⟨g, 6, none⟩ (.int .u16 u.n)).setCell ⟨g, 7, none⟩ u.kv) :=
  ⟨(((h.bel.setCell (by have := h.gk; show w.heap.size ≤ g; omega) _).setCell (by have := h.gk; show w.heap.size ≤ g; omega) _).setCell (by have := h.gk; show w.heap.size ≤ g; omega) _).setCell (by have := h.gk; show w.heap.size ≤ g; omega) _,
    by have hne : w.heap.size + 1 ≠ g := (by have := h.gk; omega); rw [heap_setCell_other _ _ _ _ hne, heap_setCell_other _ _ _ _ hne, heap_setCell_other _ _ _ _ hne, heap_setCell_other _ _ _ _ hne]; exact h.rq, by have hne : w.heap.size ≠ g := (by have := h.gk; omega); rw [heap_setCell_other _ _ _ _ hne, heap_setCell_other _ _ _ _ hne, heap_setCell_other _ _ _ _ hne, heap_setCell_other _ _ _ _ hne]; exact h.rl, kset1 u h.rk, h.gk, fun _ => (((((h.px (by omega)).set 4 _).set 5 _).set 6 _).set 7 _), fun _ => ((((hu.set 4 _).set 5 _).set 6 _).set 7 _), fun e => absurd e (by omega)⟩
theorem KS.put2 {w : World} {g : Nat} {v0 v1 v2 : Value} {q : P8} {x y z : Nd} {W : World} (u : Nd) (h : KS w g v0 v1 v2 q 2 x y z W) (hu : FitAt g W u) : KS w g v0 v1 v2 q 3 x y u ((((W.setCell ⟨g, 8, none⟩ (.int .i64 u.op)).setCell ⟨g, 9, none⟩ (.int .i64 u.f)).setCell ⟨g, 10, none⟩ (.int .u16 u.n)).setCell ⟨g, 11, none⟩ u.kv) :=
  ⟨(((h.bel.setCell (by have := h.gk; show w.heap.size ≤ g; omega) _).setCell (by have := h.gk; show w.heap.size ≤ g; omega) _).setCell (by have := h.gk; show w.heap.size ≤ g; omega) _).setCell (by have := h.gk; show w.heap.size ≤ g; omega) _,
    by have hne : w.heap.size + 1 ≠ g := (by have := h.gk; omega); rw [heap_setCell_other _ _ _ _ hne, heap_setCell_other _ _ _ _ hne, heap_setCell_other _ _ _ _ hne, heap_setCell_other _ _ _ _ hne]; exact h.rq, by have hne : w.heap.size ≠ g := (by have := h.gk; omega); rw [heap_setCell_other _ _ _ _ hne, heap_setCell_other _ _ _ _ hne, heap_setCell_other _ _ _ _ hne, heap_setCell_other _ _ _ _ hne]; exact h.rl, kset2 u h.rk, h.gk, fun _ => (((((h.px (by omega)).set 8 _).set 9 _).set 10 _).set 11 _), fun _ => (((((h.py (by omega)).set 8 _).set 9 _).set 10 _).set 11 _), fun _ => ((((hu.set 8 _).set 9 _).set 10 _).set 11 _)⟩
set_option maxRecDepth 100000 in
set_option maxHeartbeats 16000000 in
theorem laws_any (l0 l1 l2 : List Sp) (v0 v1 v2 : Value) (st : List Nat) (sv : Value) (q : P8) (w : World) (h0 : Sps w v0 l0) (hm0 : l0.length ≤ 9223372036854775807) (hs0 : ∀ s ∈ l0, s.n ≤ 65535 ∧ s.k ≤ 255)
    (h1 : Sps w v1 l1) (hm1 : l1.length ≤ 9223372036854775807) (hs1 : ∀ s ∈ l1, s.n ≤ 65535 ∧ s.k ≤ 255) (h2 : Sps w v2 l2) (hm2 : l2.length ≤ 9223372036854775807) (hs2 : ∀ s ∈ l2, s.n ≤ 65535 ∧ s.k ≤ 255)
    (hst : StAt w sv st) (hm63 : st.length ≤ 9223372036854775807) (hq : Q8 q) :
    Calls Try.prog 5 #[.agg #[v0, v1, v2], sv, q.v] w fun e w' => e = .returned (.bool true) ∧ Below w.heap.size w w' := by
  have hb0 : Below w.heap.size w ((w.alloc (aobj47 v0 v1 v2)).alloc (pobj8 q)) := ((Below.refl _ w).alloc (Nat.le_refl _) _).alloc (by simp) _
  have hrq : ((w.alloc (aobj47 v0 v1 v2)).alloc (pobj8 q)).heap[w.heap.size + 1]? = some (pobj8 q) := heap_alloc2_new w _ _
  have hrl : ((w.alloc (aobj47 v0 v1 v2)).alloc (pobj8 q)).heap[w.heap.size]? = some (aobj47 v0 v1 v2) := (Below.heap_alloc _ _ _ (by simp)).trans (heap_alloc_new w _)
  have HB0 := hide hb0
  have HRQ := hide hrq
  have HRL := hide hrl
  have HST := hide hst
  have HQ := hide hq
  have HM := hide hm63
  have CP0 : Hid (∀ W, Below w.heap.size w W → Calls Try.prog 8 #[v0] W fun e w' => PileEnd W e w') := fun W hW => pile_any l0 v0 W (sps_below h0 hW) hm0 hs0
  have CP1 : Hid (∀ W, Below w.heap.size w W → Calls Try.prog 8 #[v1] W fun e w' => PileEnd W e w') := fun W hW => pile_any l1 v1 W (sps_below h1 hW) hm1 hs1
  have CP2 : Hid (∀ W, Below w.heap.size w W → Calls Try.prog 8 #[v2] W fun e w' => PileEnd W e w') := fun W hW => pile_any l2 v2 W (sps_below h2 hW) hm2 hs2
  have cA := awake_any ((w.alloc (aobj47 v0 v1 v2)).alloc (pobj8 q))
  obtain ⟨u0, x0, rfl, -⟩ := h0
  obtain ⟨u1, x1, rfl, -⟩ := h1
  obtain ⟨u2, x2, rfl, -⟩ := h2
  obtain ⟨ss, ssc, rfl, -⟩ := hst
  obtain ⟨SL, eSL⟩ : ∃ SL, st.length = SL := ⟨_, rfl⟩
  have HES : Hid (st.length = SL) := eSL
  rw [eSL] at HST hm63 ⊢
  generalize l0.length = n0 at *
  generalize l1.length = n1 at *
  generalize l2.length = n2 at *
  clear hb0 hrq hrl hq hs0 hs1 hs2 hm0 hm1 hm2 eSL
  go_enter Try.func5, Try.ntmps5
  go_wp2_with fail
  refine cA.mono ?_
  rintro e w1 ⟨rfl, hb1⟩
  have HB1 : Hid (Below w.heap.size w w1) := HB0.out.trans (hb1.mono HB0.out.size)
  have HRQ1 := hide ((hb1.block _ (heap_lt HRQ.out)).trans HRQ.out)
  have HRL1 := hide ((hb1.block _ (heap_lt HRL.out)).trans HRL.out)
  clear hb1 cA HB0 HRQ HRL
  by_cases h6 : 6 < SL
  · have d6 : decide (6 < (SL : Int)) = true := by simp; omega
    go_wp2
    go_ret
    exact ⟨rfl, HB1.out⟩
  · have d6 : decide (6 < (SL : Int)) = false := by simp; omega
    go_wp2_with fail
    have hbk : Below w1.heap.size w1 (w1.alloc (kobj zNd zNd zNd)) := (Below.refl _ _).alloc (Nat.le_refl _) _
    have HK0 : Hid (KS w w1.heap.size (.slice u0 n0 x0) (.slice u1 n1 x1) (.slice u2 n2 x2) q 0 zNd zNd zNd (w1.alloc (kobj zNd zNd zNd))) :=
      ⟨HB1.out.trans (hbk.mono HB1.out.size), (hbk.block _ (heap_lt HRQ1.out)).trans HRQ1.out, (hbk.block _ (heap_lt HRL1.out)).trans HRL1.out, heap_alloc_new _ _, by have := heap_lt HRQ1.out; omega, fun e => absurd e (by omega), fun e => absurd e (by omega), fun e => absurd e (by omega)⟩
    generalize w1.heap.size = g7 at *
    clear hbk HB1 HRQ1 HRL1
    go_loopw [21] (fun i wr => ∃ (k : Int) (x y z : Nd), (k = 0 ∨ k = 1 ∨ k = 2 ∨ k = 3) ∧ i = .int .i64 k ∧ Hid (KS w g7 (.slice u0 n0 x0) (.slice u1 n1 x1) (.slice u2 n2 x2) q k x y z wr)) (fun i _ => (3 - intOf i).toNat)
    case atStart => exact ⟨0, zNd, zNd, zNd, .inl rfl, rfl, HK0⟩
    case round =>
      clear HK0
      obtain ⟨k, x, y, z, hk, rfl, HKS⟩ := hrel
      rcases hk with rfl | rfl | rfl | rfl
      · obtain ⟨c0, c1, c2⟩ := row3a HKS.out.rl
        go_wp2_with fail
        refine (CP0.out wr HKS.out.bel).mono ?_
        rintro e w2 ⟨⟨xo, xf, xn, xk⟩, ok0, rfl, hb2, ⟨sk, kn, skc, hkv⟩, hpol⟩
        dsimp only at hkv
        subst hkv
        have hbA : Below w2.heap.size w2 (w2.alloc (pobj ⟨xo, xf, xn, .slice sk kn skc⟩)) := (Below.refl _ _).alloc (Nat.le_refl _) _
        have hgl := heap_lt HKS.out.rk
        have HK2 := hide ((HKS.out.below hb2).below hbA)
        have HRPA : Hid ((w2.alloc (pobj ⟨xo, xf, xn, .slice sk kn skc⟩)).heap[w2.heap.size]? = some (pobj ⟨xo, xf, xn, .slice sk kn skc⟩)) := heap_alloc_new _ _
        cases ok0 with
        | false =>
          clear hpol hbA hb2
          go_wp2
          go_ret
          exact ⟨rfl, HK2.out.bel⟩
        | true =>
          obtain ⟨T, hT60, hTo, hTp⟩ := hpol rfl
          have HTP : Hid (PolAt (fun b => b ≠ g7) (w2.alloc (pobj ⟨xo, xf, xn, .slice sk kn skc⟩)) T ⟨xo, xf, xn, .slice sk kn skc⟩) := (hTp.mono fun b (hb : wr.heap.size < b) _ => (show b ≠ g7 by omega)).below hbA
          have HTo := hide hTo
          clear hpol hbA hb2 hTp HKS c0 c1 c2 hTo
          generalize hWA : w2.alloc (pobj ⟨xo, xf, xn, .slice sk kn skc⟩) = WA at *
          have hsA : WA.heap.size = w2.heap.size + 1 := by rw [← hWA]; simp
          have hbL : Below WA.heap.size WA (WA.alloc (.cells #[.int .i64 xo, .int .i64 xf, .int .u16 xn, .slice sk kn skc] 30)) := (Below.refl _ _).alloc (Nat.le_refl _) _
          have cF := fits_any [T] _ _ (lit1 7 (HTP.out.mono fun _ _ _ => trivial)) (by simp) (fun p hp => by
            simp only [List.mem_cons, List.not_mem_nil, or_false] at hp
            subst hp
            omega)
          rw [show [T].all fitB = fitB T by simp, hsA] at cF
          have HBL := hide hbL
          obtain ⟨p0, p1, p2, p3⟩ := row4 HRPA.out
          clear hbL
          cases hfit : fitB T with
          | false =>
            rw [hfit] at cF
            clear hfit
            go_wp2_with fail
            refine cF.mono ?_
            rintro e w3 ⟨rfl, hb3⟩
            have HK3 := hide (HK2.out.below (HBL.out.trans (hb3.mono HBL.out.size)))
            clear hb3 cF
            go_wp2
            go_ret
            exact ⟨rfl, HK3.out.bel⟩
          | true =>
            rw [hfit] at cF
            have HFIT := hide hfit
            clear hfit
            go_wp2_with fail
            refine cF.mono ?_
            rintro e w3 ⟨rfl, hb3⟩
            have hb3' := HBL.out.trans (hb3.mono HBL.out.size)
            have HK3 := hide (HK2.out.below hb3')
            have HF3 : Hid (FitAt g7 w3 ⟨xo, xf, xn, .slice sk kn skc⟩) := ⟨T, HFIT.out, HTo.out, hT60, HTP.out.below hb3'⟩
            have HR3 := hide ((hb3'.block _ (heap_lt HRPA.out)).trans HRPA.out)
            clear hb3 hb3' cF p0 p1 p2 p3
            obtain ⟨p0, p1, p2, p3⟩ := row4 HR3.out
            obtain ⟨f0, f1, f2, f3⟩ := kfrz0 HK3.out.rk
            obtain ⟨⟨a0, a1, a2, a3⟩, ⟨b0, b1, b2, b3⟩, e0, e1, e2, e3⟩ := krow HK3.out.rk
            have HK4 := hide (HK3.out.put0 ⟨xo, xf, xn, .slice sk kn skc⟩ HF3.out)
            go_wp2_with fail
            go_roundw
            case rel => exact ⟨1, _, _, _, by omega, rfl, HK4⟩
            case measure => simp [intOf]
      · obtain ⟨c0, c1, c2⟩ := row3a HKS.out.rl
        go_wp2_with fail
        refine (CP1.out wr HKS.out.bel).mono ?_
        rintro e w2 ⟨⟨xo, xf, xn, xk⟩, ok0, rfl, hb2, ⟨sk, kn, skc, hkv⟩, hpol⟩
        dsimp only at hkv
        subst hkv
        have hbA : Below w2.heap.size w2 (w2.alloc (pobj ⟨xo, xf, xn, .slice sk kn skc⟩)) := (Below.refl _ _).alloc (Nat.le_refl _) _
        have hgl := heap_lt HKS.out.rk
        have HK2 := hide ((HKS.out.below hb2).below hbA)
        have HRPA : Hid ((w2.alloc (pobj ⟨xo, xf, xn, .slice sk kn skc⟩)).heap[w2.heap.size]? = some (pobj ⟨xo, xf, xn, .slice sk kn skc⟩)) := heap_alloc_new _ _
        cases ok0 with
        | false =>
          clear hpol hbA hb2
          go_wp2
          go_ret
          exact ⟨rfl, HK2.out.bel⟩
        | true =>
          obtain ⟨T, hT60, hTo, hTp⟩ := hpol rfl
          have HTP : Hid (PolAt (fun b => b ≠ g7) (w2.alloc (pobj ⟨xo, xf, xn, .slice sk kn skc⟩)) T ⟨xo, xf, xn, .slice sk kn skc⟩) := (hTp.mono fun b (hb : wr.heap.size < b) _ => (show b ≠ g7 by omega)).below hbA
          have HTo := hide hTo
          clear hpol hbA hb2 hTp HKS c0 c1 c2 hTo
          generalize hWA : w2.alloc (pobj ⟨xo, xf, xn, .slice sk kn skc⟩) = WA at *
          have hsA : WA.heap.size = w2.heap.size + 1 := by rw [← hWA]; simp
          have hbL : Below WA.heap.size WA (WA.alloc (.cells #[.int .i64 xo, .int .i64 xf, .int .u16 xn, .slice sk kn skc] 30)) := (Below.refl _ _).alloc (Nat.le_refl _) _
          have cF := fits_any [T] _ _ (lit1 7 (HTP.out.mono fun _ _ _ => trivial)) (by simp) (fun p hp => by
            simp only [List.mem_cons, List.not_mem_nil, or_false] at hp
            subst hp
            omega)
          rw [show [T].all fitB = fitB T by simp, hsA] at cF
          have HBL := hide hbL
          obtain ⟨p0, p1, p2, p3⟩ := row4 HRPA.out
          clear hbL
          cases hfit : fitB T with
          | false =>
            rw [hfit] at cF
            clear hfit
            go_wp2_with fail
            refine cF.mono ?_
            rintro e w3 ⟨rfl, hb3⟩
            have HK3 := hide (HK2.out.below (HBL.out.trans (hb3.mono HBL.out.size)))
            clear hb3 cF
            go_wp2
            go_ret
            exact ⟨rfl, HK3.out.bel⟩
          | true =>
            rw [hfit] at cF
            have HFIT := hide hfit
            clear hfit
            go_wp2_with fail
            refine cF.mono ?_
            rintro e w3 ⟨rfl, hb3⟩
            have hb3' := HBL.out.trans (hb3.mono HBL.out.size)
            have HK3 := hide (HK2.out.below hb3')
            have HF3 : Hid (FitAt g7 w3 ⟨xo, xf, xn, .slice sk kn skc⟩) := ⟨T, HFIT.out, HTo.out, hT60, HTP.out.below hb3'⟩
            have HR3 := hide ((hb3'.block _ (heap_lt HRPA.out)).trans HRPA.out)
            clear hb3 hb3' cF p0 p1 p2 p3
            obtain ⟨p0, p1, p2, p3⟩ := row4 HR3.out
            obtain ⟨f0, f1, f2, f3⟩ := kfrz1 HK3.out.rk
            obtain ⟨⟨a0, a1, a2, a3⟩, ⟨b0, b1, b2, b3⟩, e0, e1, e2, e3⟩ := krow HK3.out.rk
            have HK4 := hide (HK3.out.put1 ⟨xo, xf, xn, .slice sk kn skc⟩ HF3.out)
            go_wp2_with fail
            go_roundw
            case rel => exact ⟨2, _, _, _, by omega, rfl, HK4⟩
            case measure => simp [intOf]
      · obtain ⟨c0, c1, c2⟩ := row3a HKS.out.rl
        go_wp2_with fail
        refine (CP2.out wr HKS.out.bel).mono ?_
        rintro e w2 ⟨⟨xo, xf, xn, xk⟩, ok0, rfl, hb2, ⟨sk, kn, skc, hkv⟩, hpol⟩
        dsimp only at hkv
        subst hkv
        have hbA : Below w2.heap.size w2 (w2.alloc (pobj ⟨xo, xf, xn, .slice sk kn skc⟩)) := (Below.refl _ _).alloc (Nat.le_refl _) _
        have hgl := heap_lt HKS.out.rk
        have HK2 := hide ((HKS.out.below hb2).below hbA)
        have HRPA : Hid ((w2.alloc (pobj ⟨xo, xf, xn, .slice sk kn skc⟩)).heap[w2.heap.size]? = some (pobj ⟨xo, xf, xn, .slice sk kn skc⟩)) := heap_alloc_new _ _
        cases ok0 with
        | false =>
          clear hpol hbA hb2
          go_wp2
          go_ret
          exact ⟨rfl, HK2.out.bel⟩
        | true =>
          obtain ⟨T, hT60, hTo, hTp⟩ := hpol rfl
          have HTP : Hid (PolAt (fun b => b ≠ g7) (w2.alloc (pobj ⟨xo, xf, xn, .slice sk kn skc⟩)) T ⟨xo, xf, xn, .slice sk kn skc⟩) := (hTp.mono fun b (hb : wr.heap.size < b) _ => (show b ≠ g7 by omega)).below hbA
          have HTo := hide hTo
          clear hpol hbA hb2 hTp HKS c0 c1 c2 hTo
          generalize hWA : w2.alloc (pobj ⟨xo, xf, xn, .slice sk kn skc⟩) = WA at *
          have hsA : WA.heap.size = w2.heap.size + 1 := by rw [← hWA]; simp
          have hbL : Below WA.heap.size WA (WA.alloc (.cells #[.int .i64 xo, .int .i64 xf, .int .u16 xn, .slice sk kn skc] 30)) := (Below.refl _ _).alloc (Nat.le_refl _) _
          have cF := fits_any [T] _ _ (lit1 7 (HTP.out.mono fun _ _ _ => trivial)) (by simp) (fun p hp => by
            simp only [List.mem_cons, List.not_mem_nil, or_false] at hp
            subst hp
            omega)
          rw [show [T].all fitB = fitB T by simp, hsA] at cF
          have HBL := hide hbL
          obtain ⟨p0, p1, p2, p3⟩ := row4 HRPA.out
          clear hbL
          cases hfit : fitB T with
          | false =>
            rw [hfit] at cF
            clear hfit
            go_wp2_with fail
            refine cF.mono ?_
            rintro e w3 ⟨rfl, hb3⟩
            have HK3 := hide (HK2.out.below (HBL.out.trans (hb3.mono HBL.out.size)))
            clear hb3 cF
            go_wp2
            go_ret
            exact ⟨rfl, HK3.out.bel⟩
          | true =>
            rw [hfit] at cF
            have HFIT := hide hfit
            clear hfit
            go_wp2_with fail
            refine cF.mono ?_
            rintro e w3 ⟨rfl, hb3⟩
            have hb3' := HBL.out.trans (hb3.mono HBL.out.size)
            have HK3 := hide (HK2.out.below hb3')
            have HF3 : Hid (FitAt g7 w3 ⟨xo, xf, xn, .slice sk kn skc⟩) := ⟨T, HFIT.out, HTo.out, hT60, HTP.out.below hb3'⟩
            have HR3 := hide ((hb3'.block _ (heap_lt HRPA.out)).trans HRPA.out)
            clear hb3 hb3' cF p0 p1 p2 p3
            obtain ⟨p0, p1, p2, p3⟩ := row4 HR3.out
            obtain ⟨f0, f1, f2, f3⟩ := kfrz2 HK3.out.rk
            obtain ⟨⟨a0, a1, a2, a3⟩, ⟨b0, b1, b2, b3⟩, e0, e1, e2, e3⟩ := krow HK3.out.rk
            have HK4 := hide (HK3.out.put2 ⟨xo, xf, xn, .slice sk kn skc⟩ HF3.out)
            go_wp2_with fail
            go_roundw
            case rel => exact ⟨3, _, _, _, by omega, rfl, HK4⟩
            case measure => simp [intOf]
      · go_wp2_with fail
        obtain ⟨a, ha1, ha2, ha3, ha4⟩ := HKS.out.px (by decide)
        obtain ⟨b, hb1, hb2, hb3, hb4⟩ := HKS.out.py (by decide)
        obtain ⟨c, hc1, hc2, hc3, hc4⟩ := HKS.out.pz (by decide)
        obtain ⟨-, -, -, sa, sac, ea⟩ := ha4.shape
        obtain ⟨-, -, -, sb, sbc, eb⟩ := hb4.shape
        obtain ⟨-, -, -, sc, scc, ec⟩ := hc4.shape
        generalize a.kids.length = an at *
        generalize b.kids.length = bn at *
        generalize c.kids.length = cn at *
        have HA : Hid (PolOK 40 12 a) := fit_pol ha1 ha2
        have HB : Hid (PolOK 40 12 b) := fit_pol hb1 hb2
        have HC : Hid (PolOK 40 12 c) := fit_pol hc1 hc2
        have HPA := hide ha4
        have HPB := hide hb4
        have HPC := hide hc4
        clear ha1 ha2 ha3 ha4 hb1 hb2 hb3 hb4 hc1 hc2 hc3 hc4
        obtain ⟨xo, xf, xn, xk⟩ := x
        obtain ⟨yo, yf, yn, yk⟩ := y
        obtain ⟨zo, zf, zn, zk⟩ := z
        dsimp only at ea eb ec
        subst ea eb ec
        obtain ⟨⟨a0, a1, a2, a3⟩, ⟨b0, b1, b2, b3⟩, e0, e1, e2, e3⟩ := krow HKS.out.rk
        have hgl := heap_lt HKS.out.rk
        have hn1 : g7 < wr.heap.size + 1 := by omega
        have hn2 : g7 < wr.heap.size + 1 + 1 := by omega
        dsimp only at a0 a1 a2 a3 b0 b1 b2 b3 e0 e1 e2 e3
        have HMS : Hid (∀ (o0 o1 o2 : Obj) (ga gb gc : Nat), (((wr.alloc o0).alloc o1).alloc o2).drew.heap[ga]? = some (pobj ⟨xo, xf, xn, .slice sa an sac⟩) → (((wr.alloc o0).alloc o1).alloc o2).drew.heap[gb]? = some (pobj ⟨yo, yf, yn, .slice sb bn sbc⟩) → (((wr.alloc o0).alloc o1).alloc o2).drew.heap[gc]? = some (pobj ⟨zo, zf, zn, .slice sc cn scc⟩) →
            MS w st (.slice ss SL ssc) a b c ⟨xo, xf, xn, .slice sa an sac⟩ ⟨yo, yf, yn, .slice sb bn sbc⟩ ⟨zo, zf, zn, .slice sc cn scc⟩ ga gb gc (w.heap.size + 1) q (((wr.alloc o0).alloc o1).alloc o2).drew) := fun o0 o1 o2 ga gb gc h1 h2 h3 => by
          have hb3 : Below wr.heap.size wr (((wr.alloc o0).alloc o1).alloc o2).drew := below_drewN ((((Below.refl _ _).alloc (Nat.le_refl _) _).alloc (by simp) _).alloc (by simp; omega) _) 1
          exact ⟨HKS.out.bel.trans (hb3.mono HKS.out.bel.size), h1, (HPA.out.below hb3).mono fun _ _ _ => trivial, h2, (HPB.out.below hb3).mono fun _ _ _ => trivial, h3, (HPC.out.below hb3).mono fun _ _ _ => trivial, (hb3.block _ (heap_lt HKS.out.rq)).trans HKS.out.rq, HST.out.below (HKS.out.bel.trans (hb3.mono HKS.out.bel.size))⟩
        go_cut [11, 12, 13] from 187 (fun s11 s12 s13 wx => ∃ ga gb gc, s11 = .pointer (some ⟨ga, 0, none⟩) ∧ s12 = .pointer (some ⟨gb, 0, none⟩) ∧ s13 = .pointer (some ⟨gc, 0, none⟩) ∧ Hid (MS w st (.slice ss SL ssc) a b c ⟨xo, xf, xn, .slice sa an sac⟩ ⟨yo, yf, yn, .slice sb bn sbc⟩ ⟨zo, zf, zn, .slice sc cn scc⟩ ga gb gc (w.heap.size + 1) q wx))
        case first =>
          go_region
          all_goals
            go_wp2_with fail
            go_meet
            refine ⟨_, _, _, rfl, rfl, rfl, HMS.out _ _ _ _ _ _ ?_ ?_ ?_⟩
            all_goals (first | exact (al3 _ _ _ _).1 | exact (al3 _ _ _ _).2.1 | exact (al3 _ _ _ _).2.2)
        case rest =>
          obtain ⟨ga, gb, gc, rfl, rfl, rfl, HM3⟩ := hcut
          have hbz : Below wc.heap.size wc ((wc.alloc (pobj ⟨1, 0, 0, .slice none 0 0⟩)).alloc (pobj ⟨0, 0, 0, .slice none 0 0⟩)) := ((Below.refl _ wc).alloc (Nat.le_refl _) _).alloc (by simp) _
          have hbt := HM3.out.bel.trans (hbz.mono HM3.out.bel.size)
          have HLS : Hid (LS w st (.slice ss SL ssc) a b c ⟨xo, xf, xn, .slice sa an sac⟩ ⟨yo, yf, yn, .slice sb bn sbc⟩ ⟨zo, zf, zn, .slice sc cn scc⟩ ga gb gc wc.heap.size (wc.heap.size + 1) (w.heap.size + 1) q ((wc.alloc (pobj ⟨1, 0, 0, .slice none 0 0⟩)).alloc (pobj ⟨0, 0, 0, .slice none 0 0⟩)).drew) :=
            LS.below ⟨hbt, (hbz.block _ (heap_lt HM3.out.ra)).trans HM3.out.ra, HM3.out.pa.below hbz, (hbz.block _ (heap_lt HM3.out.rb)).trans HM3.out.rb, HM3.out.pb.below hbz, (hbz.block _ (heap_lt HM3.out.rc)).trans HM3.out.rc, HM3.out.pc.below hbz, (Below.heap_alloc _ _ _ (by simp)).trans (heap_alloc_new wc _), heap_alloc2_new wc _ _, (hbz.block _ (heap_lt HM3.out.rq)).trans HM3.out.rq, HM3.out.st.below hbz⟩ (below_drewN (Below.refl _ _) 1)
          clear hbz hbt HMS HKS HPA HPB HPC a0 a1 a2 a3 b0 b1 b2 b3 e0 e1 e2 e3 HM3 hgl hn1 hn2
          go_wp2_with fail
          refine region_slots (fun W => LS w st (.slice ss SL ssc) a b c ⟨xo, xf, xn, .slice sa an sac⟩ ⟨yo, yf, yn, .slice sb bn sbc⟩ ⟨zo, zf, zn, .slice sc cn scc⟩ ga gb gc wc.heap.size (wc.heap.size + 1) (w.heap.size + 1) q W) Gr (fun d => ((lawKds (.slice ss SL ssc) q a b c).getD d kT).holds) (by as_aux_lemma => kernel_rfl) (fun d v W W' hg h => Kd.below _ h hg) (fun W W' hg h => h.below hg) (by as_aux_lemma => kernel_rfl) (by as_aux_lemma => kernel_rfl) (by as_aux_lemma => kernel_rfl) HLS.out ?_ ?_
          · skip
            refine ⟨st_old 1 (.slice ss SL ssc) 51 rfl (by as_aux_lemma => kernel_rfl) (wanted_free rfl) rfl (by as_aux_lemma => kernel_rfl) rfl fun _ => rfl, ?_⟩
            refine ⟨st_load 26 5 (.pointer (some ⟨w.heap.size + 1, 0, none⟩)) q.v 52 rfl (by as_aux_lemma => kernel_rfl) (wanted_free rfl) rfl (by as_aux_lemma => kernel_rfl) rfl (fun w h => load8 q h.rq) fun _ _ => rfl, ?_⟩
            refine ⟨st_load 30 11 (.pointer (some ⟨ga, 0, none⟩)) (nv ⟨xo, xf, xn, .slice sa an sac⟩) 53 rfl (by as_aux_lemma => kernel_rfl) (wanted_free rfl) rfl (by as_aux_lemma => kernel_rfl) rfl (fun w h => load4 _ h.ra) fun _ h => ⟨_, rfl, h.pa⟩, ?_⟩
            refine ⟨st_load 30 12 (.pointer (some ⟨gb, 0, none⟩)) (nv ⟨yo, yf, yn, .slice sb bn sbc⟩) 54 rfl (by as_aux_lemma => kernel_rfl) (wanted_free rfl) rfl (by as_aux_lemma => kernel_rfl) rfl (fun w h => load4 _ h.rb) fun _ h => ⟨_, rfl, h.pb⟩, ?_⟩
            refine ⟨st_load 30 13 (.pointer (some ⟨gc, 0, none⟩)) (nv ⟨zo, zf, zn, .slice sc cn scc⟩) 55 rfl (by as_aux_lemma => kernel_rfl) (wanted_free rfl) rfl (by as_aux_lemma => kernel_rfl) rfl (fun w h => load4 _ h.rc) fun _ h => ⟨_, rfl, h.pc⟩, ?_⟩
            refine ⟨st_build2 54 55 b c 56 rfl (by as_aux_lemma => kernel_rfl) (wanted_free rfl) rfl (by as_aux_lemma => kernel_rfl) (by as_aux_lemma => kernel_rfl) (fun _ _ h => h) (fun _ _ h => h) fun _ _ h => h, ?_⟩
            refine ⟨st_make 19 (fun _ _ => by go_simp) 7 56 [b, c] sumF 57 rfl (by as_aux_lemma => kernel_rfl) (wanted_free rfl) rfl (by as_aux_lemma => kernel_rfl) (fun _ _ h => h) fun _ _ h => h, ?_⟩
            refine ⟨st_build2 53 57 a (sumP [b, c]) 58 rfl (by as_aux_lemma => kernel_rfl) (wanted_free rfl) rfl (by as_aux_lemma => kernel_rfl) (by as_aux_lemma => kernel_rfl) (fun _ _ h => h) (fun _ _ h => h) fun _ _ h => h, ?_⟩
            refine ⟨st_make 19 (fun _ _ => by go_simp) 7 58 [a, (sumP [b, c])] sumF 59 rfl (by as_aux_lemma => kernel_rfl) (wanted_free rfl) rfl (by as_aux_lemma => kernel_rfl) (fun _ _ h => h) fun _ _ h => h, ?_⟩
            refine ⟨st_load 30 11 (.pointer (some ⟨ga, 0, none⟩)) (nv ⟨xo, xf, xn, .slice sa an sac⟩) 60 rfl (by as_aux_lemma => kernel_rfl) (wanted_free rfl) rfl (by as_aux_lemma => kernel_rfl) rfl (fun w h => load4 _ h.ra) fun _ h => ⟨_, rfl, h.pa⟩, ?_⟩
            refine ⟨st_load 30 12 (.pointer (some ⟨gb, 0, none⟩)) (nv ⟨yo, yf, yn, .slice sb bn sbc⟩) 61 rfl (by as_aux_lemma => kernel_rfl) (wanted_free rfl) rfl (by as_aux_lemma => kernel_rfl) rfl (fun w h => load4 _ h.rb) fun _ h => ⟨_, rfl, h.pb⟩, ?_⟩
            refine ⟨st_build2 60 61 a b 62 rfl (by as_aux_lemma => kernel_rfl) (wanted_free rfl) rfl (by as_aux_lemma => kernel_rfl) (by as_aux_lemma => kernel_rfl) (fun _ _ h => h) (fun _ _ h => h) fun _ _ h => h, ?_⟩
            refine ⟨st_make 19 (fun _ _ => by go_simp) 7 62 [a, b] sumF 63 rfl (by as_aux_lemma => kernel_rfl) (wanted_free rfl) rfl (by as_aux_lemma => kernel_rfl) (fun _ _ h => h) fun _ _ h => h, ?_⟩
            refine ⟨st_load 30 13 (.pointer (some ⟨gc, 0, none⟩)) (nv ⟨zo, zf, zn, .slice sc cn scc⟩) 64 rfl (by as_aux_lemma => kernel_rfl) (wanted_free rfl) rfl (by as_aux_lemma => kernel_rfl) rfl (fun w h => load4 _ h.rc) fun _ h => ⟨_, rfl, h.pc⟩, ?_⟩
            refine ⟨st_build2 63 64 (sumP [a, b]) c 65 rfl (by as_aux_lemma => kernel_rfl) (wanted_free rfl) rfl (by as_aux_lemma => kernel_rfl) (by as_aux_lemma => kernel_rfl) (fun _ _ h => h) (fun _ _ h => h) fun _ _ h => h, ?_⟩
            refine ⟨st_make 19 (fun _ _ => by go_simp) 7 65 [(sumP [a, b]), c] sumF 66 rfl (by as_aux_lemma => kernel_rfl) (wanted_free rfl) rfl (by as_aux_lemma => kernel_rfl) (fun _ _ h => h) fun _ _ h => h, ?_⟩
            refine ⟨st_load 30 11 (.pointer (some ⟨ga, 0, none⟩)) (nv ⟨xo, xf, xn, .slice sa an sac⟩) 67 rfl (by as_aux_lemma => kernel_rfl) (wanted_free rfl) rfl (by as_aux_lemma => kernel_rfl) rfl (fun w h => load4 _ h.ra) fun _ h => ⟨_, rfl, h.pa⟩, ?_⟩
            refine ⟨st_load 30 12 (.pointer (some ⟨gb, 0, none⟩)) (nv ⟨yo, yf, yn, .slice sb bn sbc⟩) 68 rfl (by as_aux_lemma => kernel_rfl) (wanted_free rfl) rfl (by as_aux_lemma => kernel_rfl) rfl (fun w h => load4 _ h.rb) fun _ h => ⟨_, rfl, h.pb⟩, ?_⟩
            refine ⟨st_load 30 13 (.pointer (some ⟨gc, 0, none⟩)) (nv ⟨zo, zf, zn, .slice sc cn scc⟩) 69 rfl (by as_aux_lemma => kernel_rfl) (wanted_free rfl) rfl (by as_aux_lemma => kernel_rfl) rfl (fun w h => load4 _ h.rc) fun _ h => ⟨_, rfl, h.pc⟩, ?_⟩
            refine ⟨st_build3 67 68 69 a b c 70 rfl (by as_aux_lemma => kernel_rfl) (wanted_free rfl) rfl (by as_aux_lemma => kernel_rfl) (by as_aux_lemma => kernel_rfl) (by as_aux_lemma => kernel_rfl) (fun _ _ h => h) (fun _ _ h => h) (fun _ _ h => h) fun _ _ h => h, ?_⟩
            refine ⟨st_make 19 (fun _ _ => by go_simp) 7 70 [a, b, c] sumF 71 rfl (by as_aux_lemma => kernel_rfl) (wanted_free rfl) rfl (by as_aux_lemma => kernel_rfl) (fun _ _ h => h) fun _ _ h => h, ?_⟩
            refine ⟨st_load 30 13 (.pointer (some ⟨gc, 0, none⟩)) (nv ⟨zo, zf, zn, .slice sc cn scc⟩) 72 rfl (by as_aux_lemma => kernel_rfl) (wanted_free rfl) rfl (by as_aux_lemma => kernel_rfl) rfl (fun w h => load4 _ h.rc) fun _ h => ⟨_, rfl, h.pc⟩, ?_⟩
            refine ⟨st_load 30 12 (.pointer (some ⟨gb, 0, none⟩)) (nv ⟨yo, yf, yn, .slice sb bn sbc⟩) 73 rfl (by as_aux_lemma => kernel_rfl) (wanted_free rfl) rfl (by as_aux_lemma => kernel_rfl) rfl (fun w h => load4 _ h.rb) fun _ h => ⟨_, rfl, h.pb⟩, ?_⟩
            refine ⟨st_load 30 11 (.pointer (some ⟨ga, 0, none⟩)) (nv ⟨xo, xf, xn, .slice sa an sac⟩) 74 rfl (by as_aux_lemma => kernel_rfl) (wanted_free rfl) rfl (by as_aux_lemma => kernel_rfl) rfl (fun w h => load4 _ h.ra) fun _ h => ⟨_, rfl, h.pa⟩, ?_⟩
            refine ⟨st_build3 72 73 74 c b a 75 rfl (by as_aux_lemma => kernel_rfl) (wanted_free rfl) rfl (by as_aux_lemma => kernel_rfl) (by as_aux_lemma => kernel_rfl) (by as_aux_lemma => kernel_rfl) (fun _ _ h => h) (fun _ _ h => h) (fun _ _ h => h) fun _ _ h => h, ?_⟩
            refine ⟨st_make 19 (fun _ _ => by go_simp) 7 75 [c, b, a] sumF 76 rfl (by as_aux_lemma => kernel_rfl) (wanted_free rfl) rfl (by as_aux_lemma => kernel_rfl) (fun _ _ h => h) fun _ _ h => h, ?_⟩
            refine ⟨st_build4 59 66 71 76 (sumP [a, (sumP [b, c])]) (sumP [(sumP [a, b]), c]) (sumP [a, b, c]) (sumP [c, b, a]) 77 rfl (by as_aux_lemma => kernel_rfl) (wanted_free rfl) rfl (by as_aux_lemma => kernel_rfl) (by as_aux_lemma => kernel_rfl) (by as_aux_lemma => kernel_rfl) (by as_aux_lemma => kernel_rfl) (fun _ _ h => h) (fun _ _ h => h) (fun _ _ h => h) (fun _ _ h => h) fun _ _ h => h, ?_⟩
            refine ⟨st_alike st (.slice ss SL ssc) HM.out q HQ.out (fun w h => h.st) 51 52 77 [(sumP [a, (sumP [b, c])]), (sumP [(sumP [a, b]), c]), (sumP [a, b, c]), (sumP [c, b, a])] (by simp) (fun p hp => by
                simp only [List.mem_cons, List.not_mem_nil, or_false] at hp
                rcases hp with rfl | rfl | rfl | rfl
                · exact PolOK.fit (PolOK.sum2 HA.out (PolOK.sum2 HB.out HC.out)) st (by decide) (by decide)
                · exact PolOK.fit (PolOK.sum2 (PolOK.sum2 HA.out HB.out) HC.out) st (by decide) (by decide)
                · exact PolOK.fit (PolOK.sum3 HA.out HB.out HC.out) st (by decide) (by decide)
                · exact PolOK.fit (PolOK.sum3 HC.out HB.out HA.out) st (by decide) (by decide)) (chain4 (law1 st q a b c) (law2 st q a b c) (law3 st q a b c)) 78 rfl (by as_aux_lemma => kernel_rfl) (wanted_free rfl) rfl (by as_aux_lemma => kernel_rfl) (by as_aux_lemma => kernel_rfl) (by as_aux_lemma => kernel_rfl) (fun _ _ h => h) (fun _ _ h => h) (fun _ _ h => h) fun _ => rfl, ?_⟩
            refine ⟨st_move 78 79 rfl (by as_aux_lemma => kernel_rfl) (wanted_free rfl) (.inl rfl) (by as_aux_lemma => kernel_rfl) fun _ _ h => h, ?_⟩
            refine ⟨st_old 1 (.slice ss SL ssc) 80 rfl (by as_aux_lemma => kernel_rfl) (wanted_by 79 rfl (by as_aux_lemma => kernel_rfl) (by as_aux_lemma => kernel_rfl) fun _ _ h => h) rfl (by as_aux_lemma => kernel_rfl) rfl fun _ => rfl, ?_⟩
            refine ⟨st_load 26 5 (.pointer (some ⟨w.heap.size + 1, 0, none⟩)) q.v 81 rfl (by as_aux_lemma => kernel_rfl) (wanted_by 79 rfl (by as_aux_lemma => kernel_rfl) (by as_aux_lemma => kernel_rfl) fun _ _ h => h) rfl (by as_aux_lemma => kernel_rfl) rfl (fun w h => load8 q h.rq) fun _ _ => rfl, ?_⟩
            refine ⟨st_load 30 11 (.pointer (some ⟨ga, 0, none⟩)) (nv ⟨xo, xf, xn, .slice sa an sac⟩) 82 rfl (by as_aux_lemma => kernel_rfl) (wanted_by 79 rfl (by as_aux_lemma => kernel_rfl) (by as_aux_lemma => kernel_rfl) fun _ _ h => h) rfl (by as_aux_lemma => kernel_rfl) rfl (fun w h => load4 _ h.ra) fun _ h => ⟨_, rfl, h.pa⟩, ?_⟩
            refine ⟨st_load 30 12 (.pointer (some ⟨gb, 0, none⟩)) (nv ⟨yo, yf, yn, .slice sb bn sbc⟩) 83 rfl (by as_aux_lemma => kernel_rfl) (wanted_by 79 rfl (by as_aux_lemma => kernel_rfl) (by as_aux_lemma => kernel_rfl) fun _ _ h => h) rfl (by as_aux_lemma => kernel_rfl) rfl (fun w h => load4 _ h.rb) fun _ h => ⟨_, rfl, h.pb⟩, ?_⟩
            refine ⟨st_load 30 13 (.pointer (some ⟨gc, 0, none⟩)) (nv ⟨zo, zf, zn, .slice sc cn scc⟩) 84 rfl (by as_aux_lemma => kernel_rfl) (wanted_by 79 rfl (by as_aux_lemma => kernel_rfl) (by as_aux_lemma => kernel_rfl) fun _ _ h => h) rfl (by as_aux_lemma => kernel_rfl) rfl (fun w h => load4 _ h.rc) fun _ h => ⟨_, rfl, h.pc⟩, ?_⟩
            refine ⟨st_build2 83 84 b c 85 rfl (by as_aux_lemma => kernel_rfl) (wanted_by 79 rfl (by as_aux_lemma => kernel_rfl) (by as_aux_lemma => kernel_rfl) fun _ _ h => h) rfl (by as_aux_lemma => kernel_rfl) (by as_aux_lemma => kernel_rfl) (fun _ _ h => h) (fun _ _ h => h) fun _ _ h => h, ?_⟩
            refine ⟨st_make 20 (fun _ _ => by go_simp) 6 85 [b, c] seqF 86 rfl (by as_aux_lemma => kernel_rfl) (wanted_by 79 rfl (by as_aux_lemma => kernel_rfl) (by as_aux_lemma => kernel_rfl) fun _ _ h => h) rfl (by as_aux_lemma => kernel_rfl) (fun _ _ h => h) fun _ _ h => h, ?_⟩
            refine ⟨st_build2 82 86 a (seqP [b, c]) 87 rfl (by as_aux_lemma => kernel_rfl) (wanted_by 79 rfl (by as_aux_lemma => kernel_rfl) (by as_aux_lemma => kernel_rfl) fun _ _ h => h) rfl (by as_aux_lemma => kernel_rfl) (by as_aux_lemma => kernel_rfl) (fun _ _ h => h) (fun _ _ h => h) fun _ _ h => h, ?_⟩
            refine ⟨st_make 20 (fun _ _ => by go_simp) 6 87 [a, (seqP [b, c])] seqF 88 rfl (by as_aux_lemma => kernel_rfl) (wanted_by 79 rfl (by as_aux_lemma => kernel_rfl) (by as_aux_lemma => kernel_rfl) fun _ _ h => h) rfl (by as_aux_lemma => kernel_rfl) (fun _ _ h => h) fun _ _ h => h, ?_⟩
            refine ⟨st_load 30 11 (.pointer (some ⟨ga, 0, none⟩)) (nv ⟨xo, xf, xn, .slice sa an sac⟩) 89 rfl (by as_aux_lemma => kernel_rfl) (wanted_by 79 rfl (by as_aux_lemma => kernel_rfl) (by as_aux_lemma => kernel_rfl) fun _ _ h => h) rfl (by as_aux_lemma => kernel_rfl) rfl (fun w h => load4 _ h.ra) fun _ h => ⟨_, rfl, h.pa⟩, ?_⟩
            refine ⟨st_load 30 12 (.pointer (some ⟨gb, 0, none⟩)) (nv ⟨yo, yf, yn, .slice sb bn sbc⟩) 90 rfl (by as_aux_lemma => kernel_rfl) (wanted_by 79 rfl (by as_aux_lemma => kernel_rfl) (by as_aux_lemma => kernel_rfl) fun _ _ h => h) rfl (by as_aux_lemma => kernel_rfl) rfl (fun w h => load4 _ h.rb) fun _ h => ⟨_, rfl, h.pb⟩, ?_⟩
            refine ⟨st_build2 89 90 a b 91 rfl (by as_aux_lemma => kernel_rfl) (wanted_by 79 rfl (by as_aux_lemma => kernel_rfl) (by as_aux_lemma => kernel_rfl) fun _ _ h => h) rfl (by as_aux_lemma => kernel_rfl) (by as_aux_lemma => kernel_rfl) (fun _ _ h => h) (fun _ _ h => h) fun _ _ h => h, ?_⟩
            refine ⟨st_make 20 (fun _ _ => by go_simp) 6 91 [a, b] seqF 92 rfl (by as_aux_lemma => kernel_rfl) (wanted_by 79 rfl (by as_aux_lemma => kernel_rfl) (by as_aux_lemma => kernel_rfl) fun _ _ h => h) rfl (by as_aux_lemma => kernel_rfl) (fun _ _ h => h) fun _ _ h => h, ?_⟩
            refine ⟨st_load 30 13 (.pointer (some ⟨gc, 0, none⟩)) (nv ⟨zo, zf, zn, .slice sc cn scc⟩) 93 rfl (by as_aux_lemma => kernel_rfl) (wanted_by 79 rfl (by as_aux_lemma => kernel_rfl) (by as_aux_lemma => kernel_rfl) fun _ _ h => h) rfl (by as_aux_lemma => kernel_rfl) rfl (fun w h => load4 _ h.rc) fun _ h => ⟨_, rfl, h.pc⟩, ?_⟩
            refine ⟨st_build2 92 93 (seqP [a, b]) c 94 rfl (by as_aux_lemma => kernel_rfl) (wanted_by 79 rfl (by as_aux_lemma => kernel_rfl) (by as_aux_lemma => kernel_rfl) fun _ _ h => h) rfl (by as_aux_lemma => kernel_rfl) (by as_aux_lemma => kernel_rfl) (fun _ _ h => h) (fun _ _ h => h) fun _ _ h => h, ?_⟩
            refine ⟨st_make 20 (fun _ _ => by go_simp) 6 94 [(seqP [a, b]), c] seqF 95 rfl (by as_aux_lemma => kernel_rfl) (wanted_by 79 rfl (by as_aux_lemma => kernel_rfl) (by as_aux_lemma => kernel_rfl) fun _ _ h => h) rfl (by as_aux_lemma => kernel_rfl) (fun _ _ h => h) fun _ _ h => h, ?_⟩
            refine ⟨st_load 30 11 (.pointer (some ⟨ga, 0, none⟩)) (nv ⟨xo, xf, xn, .slice sa an sac⟩) 96 rfl (by as_aux_lemma => kernel_rfl) (wanted_by 79 rfl (by as_aux_lemma => kernel_rfl) (by as_aux_lemma => kernel_rfl) fun _ _ h => h) rfl (by as_aux_lemma => kernel_rfl) rfl (fun w h => load4 _ h.ra) fun _ h => ⟨_, rfl, h.pa⟩, ?_⟩
            refine ⟨st_load 30 12 (.pointer (some ⟨gb, 0, none⟩)) (nv ⟨yo, yf, yn, .slice sb bn sbc⟩) 97 rfl (by as_aux_lemma => kernel_rfl) (wanted_by 79 rfl (by as_aux_lemma => kernel_rfl) (by as_aux_lemma => kernel_rfl) fun _ _ h => h) rfl (by as_aux_lemma => kernel_rfl) rfl (fun w h => load4 _ h.rb) fun _ h => ⟨_, rfl, h.pb⟩, ?_⟩
            refine ⟨st_load 30 13 (.pointer (some ⟨gc, 0, none⟩)) (nv ⟨zo, zf, zn, .slice sc cn scc⟩) 98 rfl (by as_aux_lemma => kernel_rfl) (wanted_by 79 rfl (by as_aux_lemma => kernel_rfl) (by as_aux_lemma => kernel_rfl) fun _ _ h => h) rfl (by as_aux_lemma => kernel_rfl) rfl (fun w h => load4 _ h.rc) fun _ h => ⟨_, rfl, h.pc⟩, ?_⟩
            refine ⟨st_build3 96 97 98 a b c 99 rfl (by as_aux_lemma => kernel_rfl) (wanted_by 79 rfl (by as_aux_lemma => kernel_rfl) (by as_aux_lemma => kernel_rfl) fun _ _ h => h) rfl (by as_aux_lemma => kernel_rfl) (by as_aux_lemma => kernel_rfl) (by as_aux_lemma => kernel_rfl) (fun _ _ h => h) (fun _ _ h => h) (fun _ _ h => h) fun _ _ h => h, ?_⟩
            refine ⟨st_make 20 (fun _ _ => by go_simp) 6 99 [a, b, c] seqF 100 rfl (by as_aux_lemma => kernel_rfl) (wanted_by 79 rfl (by as_aux_lemma => kernel_rfl) (by as_aux_lemma => kernel_rfl) fun _ _ h => h) rfl (by as_aux_lemma => kernel_rfl) (fun _ _ h => h) fun _ _ h => h, ?_⟩
            refine ⟨st_build3 88 95 100 (seqP [a, (seqP [b, c])]) (seqP [(seqP [a, b]), c]) (seqP [a, b, c]) 101 rfl (by as_aux_lemma => kernel_rfl) (wanted_by 79 rfl (by as_aux_lemma => kernel_rfl) (by as_aux_lemma => kernel_rfl) fun _ _ h => h) rfl (by as_aux_lemma => kernel_rfl) (by as_aux_lemma => kernel_rfl) (by as_aux_lemma => kernel_rfl) (fun _ _ h => h) (fun _ _ h => h) (fun _ _ h => h) fun _ _ h => h, ?_⟩
            refine ⟨st_alike st (.slice ss SL ssc) HM.out q HQ.out (fun w h => h.st) 80 81 101 [(seqP [a, (seqP [b, c])]), (seqP [(seqP [a, b]), c]), (seqP [a, b, c])] (by simp) (fun p hp => by
                simp only [List.mem_cons, List.not_mem_nil, or_false] at hp
                rcases hp with rfl | rfl | rfl
                · exact PolOK.fit (PolOK.seq2 HA.out (PolOK.seq2 HB.out HC.out)) st (by decide) (by decide)
                · exact PolOK.fit (PolOK.seq2 (PolOK.seq2 HA.out HB.out) HC.out) st (by decide) (by decide)
                · exact PolOK.fit (PolOK.seq3 HA.out HB.out HC.out) st (by decide) (by decide)) (chain3 (law4 st q a b c) (law5 st q a b c)) 102 rfl (by as_aux_lemma => kernel_rfl) (wanted_by 79 rfl (by as_aux_lemma => kernel_rfl) (by as_aux_lemma => kernel_rfl) fun _ _ h => h) rfl (by as_aux_lemma => kernel_rfl) (by as_aux_lemma => kernel_rfl) (by as_aux_lemma => kernel_rfl) (fun _ _ h => h) (fun _ _ h => h) (fun _ _ h => h) fun _ => rfl, ?_⟩
            refine ⟨st_pick 79 102 103 rfl (by as_aux_lemma => kernel_rfl) (wanted_free rfl) rfl (by as_aux_lemma => kernel_rfl) (by as_aux_lemma => kernel_rfl) (fun _ _ h => h) (fun _ _ h => h) fun _ => rfl, ?_⟩
            refine ⟨st_move 103 104 rfl (by as_aux_lemma => kernel_rfl) (wanted_free rfl) (.inl rfl) (by as_aux_lemma => kernel_rfl) fun _ _ h => h, ?_⟩
            refine ⟨st_old 1 (.slice ss SL ssc) 105 rfl (by as_aux_lemma => kernel_rfl) (wanted_by 104 rfl (by as_aux_lemma => kernel_rfl) (by as_aux_lemma => kernel_rfl) fun _ _ h => h) rfl (by as_aux_lemma => kernel_rfl) rfl fun _ => rfl, ?_⟩
            refine ⟨st_load 26 5 (.pointer (some ⟨w.heap.size + 1, 0, none⟩)) q.v 106 rfl (by as_aux_lemma => kernel_rfl) (wanted_by 104 rfl (by as_aux_lemma => kernel_rfl) (by as_aux_lemma => kernel_rfl) fun _ _ h => h) rfl (by as_aux_lemma => kernel_rfl) rfl (fun w h => load8 q h.rq) fun _ _ => rfl, ?_⟩
            refine ⟨st_load 30 11 (.pointer (some ⟨ga, 0, none⟩)) (nv ⟨xo, xf, xn, .slice sa an sac⟩) 107 rfl (by as_aux_lemma => kernel_rfl) (wanted_by 104 rfl (by as_aux_lemma => kernel_rfl) (by as_aux_lemma => kernel_rfl) fun _ _ h => h) rfl (by as_aux_lemma => kernel_rfl) rfl (fun w h => load4 _ h.ra) fun _ h => ⟨_, rfl, h.pa⟩, ?_⟩
            refine ⟨st_load 30 11 (.pointer (some ⟨ga, 0, none⟩)) (nv ⟨xo, xf, xn, .slice sa an sac⟩) 108 rfl (by as_aux_lemma => kernel_rfl) (wanted_by 104 rfl (by as_aux_lemma => kernel_rfl) (by as_aux_lemma => kernel_rfl) fun _ _ h => h) rfl (by as_aux_lemma => kernel_rfl) rfl (fun w h => load4 _ h.ra) fun _ h => ⟨_, rfl, h.pa⟩, ?_⟩
            refine ⟨st_build2 107 108 a a 109 rfl (by as_aux_lemma => kernel_rfl) (wanted_by 104 rfl (by as_aux_lemma => kernel_rfl) (by as_aux_lemma => kernel_rfl) fun _ _ h => h) rfl (by as_aux_lemma => kernel_rfl) (by as_aux_lemma => kernel_rfl) (fun _ _ h => h) (fun _ _ h => h) fun _ _ h => h, ?_⟩
            refine ⟨st_make 19 (fun _ _ => by go_simp) 7 109 [a, a] sumF 110 rfl (by as_aux_lemma => kernel_rfl) (wanted_by 104 rfl (by as_aux_lemma => kernel_rfl) (by as_aux_lemma => kernel_rfl) fun _ _ h => h) rfl (by as_aux_lemma => kernel_rfl) (fun _ _ h => h) fun _ _ h => h, ?_⟩
            refine ⟨st_load 30 11 (.pointer (some ⟨ga, 0, none⟩)) (nv ⟨xo, xf, xn, .slice sa an sac⟩) 111 rfl (by as_aux_lemma => kernel_rfl) (wanted_by 104 rfl (by as_aux_lemma => kernel_rfl) (by as_aux_lemma => kernel_rfl) fun _ _ h => h) rfl (by as_aux_lemma => kernel_rfl) rfl (fun w h => load4 _ h.ra) fun _ h => ⟨_, rfl, h.pa⟩, ?_⟩
            refine ⟨st_load 30 11 (.pointer (some ⟨ga, 0, none⟩)) (nv ⟨xo, xf, xn, .slice sa an sac⟩) 112 rfl (by as_aux_lemma => kernel_rfl) (wanted_by 104 rfl (by as_aux_lemma => kernel_rfl) (by as_aux_lemma => kernel_rfl) fun _ _ h => h) rfl (by as_aux_lemma => kernel_rfl) rfl (fun w h => load4 _ h.ra) fun _ h => ⟨_, rfl, h.pa⟩, ?_⟩
            refine ⟨st_load 30 15 (.pointer (some ⟨wc.heap.size + 1, 0, none⟩)) (nv ⟨0, 0, 0, .slice none 0 0⟩) 113 rfl (by as_aux_lemma => kernel_rfl) (wanted_by 104 rfl (by as_aux_lemma => kernel_rfl) (by as_aux_lemma => kernel_rfl) fun _ _ h => h) rfl (by as_aux_lemma => kernel_rfl) rfl (fun w h => load4 _ h.rd) fun _ h => ⟨_, rfl, PolAt.leaf All _ 0 0 0⟩, ?_⟩
            refine ⟨st_build2 112 113 a nonePl 114 rfl (by as_aux_lemma => kernel_rfl) (wanted_by 104 rfl (by as_aux_lemma => kernel_rfl) (by as_aux_lemma => kernel_rfl) fun _ _ h => h) rfl (by as_aux_lemma => kernel_rfl) (by as_aux_lemma => kernel_rfl) (fun _ _ h => h) (fun _ _ h => h) fun _ _ h => h, ?_⟩
            refine ⟨st_make 19 (fun _ _ => by go_simp) 7 114 [a, nonePl] sumF 115 rfl (by as_aux_lemma => kernel_rfl) (wanted_by 104 rfl (by as_aux_lemma => kernel_rfl) (by as_aux_lemma => kernel_rfl) fun _ _ h => h) rfl (by as_aux_lemma => kernel_rfl) (fun _ _ h => h) fun _ _ h => h, ?_⟩
            refine ⟨st_load 30 11 (.pointer (some ⟨ga, 0, none⟩)) (nv ⟨xo, xf, xn, .slice sa an sac⟩) 116 rfl (by as_aux_lemma => kernel_rfl) (wanted_by 104 rfl (by as_aux_lemma => kernel_rfl) (by as_aux_lemma => kernel_rfl) fun _ _ h => h) rfl (by as_aux_lemma => kernel_rfl) rfl (fun w h => load4 _ h.ra) fun _ h => ⟨_, rfl, h.pa⟩, ?_⟩
            refine ⟨st_load 30 14 (.pointer (some ⟨wc.heap.size, 0, none⟩)) (nv ⟨1, 0, 0, .slice none 0 0⟩) 117 rfl (by as_aux_lemma => kernel_rfl) (wanted_by 104 rfl (by as_aux_lemma => kernel_rfl) (by as_aux_lemma => kernel_rfl) fun _ _ h => h) rfl (by as_aux_lemma => kernel_rfl) rfl (fun w h => load4 _ h.ri) fun _ h => ⟨_, rfl, PolAt.leaf All _ 1 0 0⟩, ?_⟩
            refine ⟨st_build2 116 117 a idP 118 rfl (by as_aux_lemma => kernel_rfl) (wanted_by 104 rfl (by as_aux_lemma => kernel_rfl) (by as_aux_lemma => kernel_rfl) fun _ _ h => h) rfl (by as_aux_lemma => kernel_rfl) (by as_aux_lemma => kernel_rfl) (fun _ _ h => h) (fun _ _ h => h) fun _ _ h => h, ?_⟩
            refine ⟨st_make 20 (fun _ _ => by go_simp) 6 118 [a, idP] seqF 119 rfl (by as_aux_lemma => kernel_rfl) (wanted_by 104 rfl (by as_aux_lemma => kernel_rfl) (by as_aux_lemma => kernel_rfl) fun _ _ h => h) rfl (by as_aux_lemma => kernel_rfl) (fun _ _ h => h) fun _ _ h => h, ?_⟩
            refine ⟨st_load 30 14 (.pointer (some ⟨wc.heap.size, 0, none⟩)) (nv ⟨1, 0, 0, .slice none 0 0⟩) 120 rfl (by as_aux_lemma => kernel_rfl) (wanted_by 104 rfl (by as_aux_lemma => kernel_rfl) (by as_aux_lemma => kernel_rfl) fun _ _ h => h) rfl (by as_aux_lemma => kernel_rfl) rfl (fun w h => load4 _ h.ri) fun _ h => ⟨_, rfl, PolAt.leaf All _ 1 0 0⟩, ?_⟩
            refine ⟨st_load 30 11 (.pointer (some ⟨ga, 0, none⟩)) (nv ⟨xo, xf, xn, .slice sa an sac⟩) 121 rfl (by as_aux_lemma => kernel_rfl) (wanted_by 104 rfl (by as_aux_lemma => kernel_rfl) (by as_aux_lemma => kernel_rfl) fun _ _ h => h) rfl (by as_aux_lemma => kernel_rfl) rfl (fun w h => load4 _ h.ra) fun _ h => ⟨_, rfl, h.pa⟩, ?_⟩
            refine ⟨st_build2 120 121 idP a 122 rfl (by as_aux_lemma => kernel_rfl) (wanted_by 104 rfl (by as_aux_lemma => kernel_rfl) (by as_aux_lemma => kernel_rfl) fun _ _ h => h) rfl (by as_aux_lemma => kernel_rfl) (by as_aux_lemma => kernel_rfl) (fun _ _ h => h) (fun _ _ h => h) fun _ _ h => h, ?_⟩
            refine ⟨st_make 20 (fun _ _ => by go_simp) 6 122 [idP, a] seqF 123 rfl (by as_aux_lemma => kernel_rfl) (wanted_by 104 rfl (by as_aux_lemma => kernel_rfl) (by as_aux_lemma => kernel_rfl) fun _ _ h => h) rfl (by as_aux_lemma => kernel_rfl) (fun _ _ h => h) fun _ _ h => h, ?_⟩
            refine ⟨st_build5 110 111 115 119 123 (sumP [a, a]) a (sumP [a, nonePl]) (seqP [a, idP]) (seqP [idP, a]) 124 rfl (by as_aux_lemma => kernel_rfl) (wanted_by 104 rfl (by as_aux_lemma => kernel_rfl) (by as_aux_lemma => kernel_rfl) fun _ _ h => h) rfl (by as_aux_lemma => kernel_rfl) (by as_aux_lemma => kernel_rfl) (by as_aux_lemma => kernel_rfl) (by as_aux_lemma => kernel_rfl) (by as_aux_lemma => kernel_rfl) (fun _ _ h => h) (fun _ _ h => h) (fun _ _ h => h) (fun _ _ h => h) (fun _ _ h => h) fun _ _ h => h, ?_⟩
            refine ⟨st_alike st (.slice ss SL ssc) HM.out q HQ.out (fun w h => h.st) 105 106 124 [(sumP [a, a]), a, (sumP [a, nonePl]), (seqP [a, idP]), (seqP [idP, a])] (by simp) (fun p hp => by
                simp only [List.mem_cons, List.not_mem_nil, or_false] at hp
                rcases hp with rfl | rfl | rfl | rfl | rfl
                · exact PolOK.fit (PolOK.sum2 HA.out HA.out) st (by decide) (by decide)
                · exact PolOK.fit HA.out st (by decide) (by decide)
                · exact PolOK.fit (PolOK.sum2 HA.out ok_drop) st (by decide) (by decide)
                · exact PolOK.fit (PolOK.seq2 HA.out ok_id) st (by decide) (by decide)
                · exact PolOK.fit (PolOK.seq2 ok_id HA.out) st (by decide) (by decide)) (chain5 (law6 st q a) (law7 st q a) (law8 st q a) (law9 st q a)) 125 rfl (by as_aux_lemma => kernel_rfl) (wanted_by 104 rfl (by as_aux_lemma => kernel_rfl) (by as_aux_lemma => kernel_rfl) fun _ _ h => h) rfl (by as_aux_lemma => kernel_rfl) (by as_aux_lemma => kernel_rfl) (by as_aux_lemma => kernel_rfl) (fun _ _ h => h) (fun _ _ h => h) (fun _ _ h => h) fun _ => rfl, ?_⟩
            refine ⟨st_pick 104 125 126 rfl (by as_aux_lemma => kernel_rfl) (wanted_free rfl) rfl (by as_aux_lemma => kernel_rfl) (by as_aux_lemma => kernel_rfl) (fun _ _ h => h) (fun _ _ h => h) fun _ => rfl, ?_⟩
            refine ⟨st_move 126 127 rfl (by as_aux_lemma => kernel_rfl) (wanted_free rfl) (.inl rfl) (by as_aux_lemma => kernel_rfl) fun _ _ h => h, ?_⟩
            refine ⟨st_old 1 (.slice ss SL ssc) 128 rfl (by as_aux_lemma => kernel_rfl) (wanted_by 127 rfl (by as_aux_lemma => kernel_rfl) (by as_aux_lemma => kernel_rfl) fun _ _ h => h) rfl (by as_aux_lemma => kernel_rfl) rfl fun _ => rfl, ?_⟩
            refine ⟨st_load 26 5 (.pointer (some ⟨w.heap.size + 1, 0, none⟩)) q.v 129 rfl (by as_aux_lemma => kernel_rfl) (wanted_by 127 rfl (by as_aux_lemma => kernel_rfl) (by as_aux_lemma => kernel_rfl) fun _ _ h => h) rfl (by as_aux_lemma => kernel_rfl) rfl (fun w h => load8 q h.rq) fun _ _ => rfl, ?_⟩
            refine ⟨st_load 30 11 (.pointer (some ⟨ga, 0, none⟩)) (nv ⟨xo, xf, xn, .slice sa an sac⟩) 130 rfl (by as_aux_lemma => kernel_rfl) (wanted_by 127 rfl (by as_aux_lemma => kernel_rfl) (by as_aux_lemma => kernel_rfl) fun _ _ h => h) rfl (by as_aux_lemma => kernel_rfl) rfl (fun w h => load4 _ h.ra) fun _ h => ⟨_, rfl, h.pa⟩, ?_⟩
            refine ⟨st_load 30 15 (.pointer (some ⟨wc.heap.size + 1, 0, none⟩)) (nv ⟨0, 0, 0, .slice none 0 0⟩) 131 rfl (by as_aux_lemma => kernel_rfl) (wanted_by 127 rfl (by as_aux_lemma => kernel_rfl) (by as_aux_lemma => kernel_rfl) fun _ _ h => h) rfl (by as_aux_lemma => kernel_rfl) rfl (fun w h => load4 _ h.rd) fun _ h => ⟨_, rfl, PolAt.leaf All _ 0 0 0⟩, ?_⟩
            refine ⟨st_build2 130 131 a nonePl 132 rfl (by as_aux_lemma => kernel_rfl) (wanted_by 127 rfl (by as_aux_lemma => kernel_rfl) (by as_aux_lemma => kernel_rfl) fun _ _ h => h) rfl (by as_aux_lemma => kernel_rfl) (by as_aux_lemma => kernel_rfl) (fun _ _ h => h) (fun _ _ h => h) fun _ _ h => h, ?_⟩
            refine ⟨st_make 20 (fun _ _ => by go_simp) 6 132 [a, nonePl] seqF 133 rfl (by as_aux_lemma => kernel_rfl) (wanted_by 127 rfl (by as_aux_lemma => kernel_rfl) (by as_aux_lemma => kernel_rfl) fun _ _ h => h) rfl (by as_aux_lemma => kernel_rfl) (fun _ _ h => h) fun _ _ h => h, ?_⟩
            refine ⟨st_load 30 15 (.pointer (some ⟨wc.heap.size + 1, 0, none⟩)) (nv ⟨0, 0, 0, .slice none 0 0⟩) 134 rfl (by as_aux_lemma => kernel_rfl) (wanted_by 127 rfl (by as_aux_lemma => kernel_rfl) (by as_aux_lemma => kernel_rfl) fun _ _ h => h) rfl (by as_aux_lemma => kernel_rfl) rfl (fun w h => load4 _ h.rd) fun _ h => ⟨_, rfl, PolAt.leaf All _ 0 0 0⟩, ?_⟩
            refine ⟨st_load 30 11 (.pointer (some ⟨ga, 0, none⟩)) (nv ⟨xo, xf, xn, .slice sa an sac⟩) 135 rfl (by as_aux_lemma => kernel_rfl) (wanted_by 127 rfl (by as_aux_lemma => kernel_rfl) (by as_aux_lemma => kernel_rfl) fun _ _ h => h) rfl (by as_aux_lemma => kernel_rfl) rfl (fun w h => load4 _ h.ra) fun _ h => ⟨_, rfl, h.pa⟩, ?_⟩
            refine ⟨st_build2 134 135 nonePl a 136 rfl (by as_aux_lemma => kernel_rfl) (wanted_by 127 rfl (by as_aux_lemma => kernel_rfl) (by as_aux_lemma => kernel_rfl) fun _ _ h => h) rfl (by as_aux_lemma => kernel_rfl) (by as_aux_lemma => kernel_rfl) (fun _ _ h => h) (fun _ _ h => h) fun _ _ h => h, ?_⟩
            refine ⟨st_make 20 (fun _ _ => by go_simp) 6 136 [nonePl, a] seqF 137 rfl (by as_aux_lemma => kernel_rfl) (wanted_by 127 rfl (by as_aux_lemma => kernel_rfl) (by as_aux_lemma => kernel_rfl) fun _ _ h => h) rfl (by as_aux_lemma => kernel_rfl) (fun _ _ h => h) fun _ _ h => h, ?_⟩
            refine ⟨st_load 30 15 (.pointer (some ⟨wc.heap.size + 1, 0, none⟩)) (nv ⟨0, 0, 0, .slice none 0 0⟩) 138 rfl (by as_aux_lemma => kernel_rfl) (wanted_by 127 rfl (by as_aux_lemma => kernel_rfl) (by as_aux_lemma => kernel_rfl) fun _ _ h => h) rfl (by as_aux_lemma => kernel_rfl) rfl (fun w h => load4 _ h.rd) fun _ h => ⟨_, rfl, PolAt.leaf All _ 0 0 0⟩, ?_⟩
            refine ⟨st_build3 133 137 138 (seqP [a, nonePl]) (seqP [nonePl, a]) nonePl 139 rfl (by as_aux_lemma => kernel_rfl) (wanted_by 127 rfl (by as_aux_lemma => kernel_rfl) (by as_aux_lemma => kernel_rfl) fun _ _ h => h) rfl (by as_aux_lemma => kernel_rfl) (by as_aux_lemma => kernel_rfl) (by as_aux_lemma => kernel_rfl) (fun _ _ h => h) (fun _ _ h => h) (fun _ _ h => h) fun _ _ h => h, ?_⟩
            refine ⟨st_alike st (.slice ss SL ssc) HM.out q HQ.out (fun w h => h.st) 128 129 139 [(seqP [a, nonePl]), (seqP [nonePl, a]), nonePl] (by simp) (fun p hp => by
                simp only [List.mem_cons, List.not_mem_nil, or_false] at hp
                rcases hp with rfl | rfl | rfl
                · exact PolOK.fit (PolOK.seq2 HA.out ok_drop) st (by decide) (by decide)
                · exact PolOK.fit (PolOK.seq2 ok_drop HA.out) st (by decide) (by decide)
                · exact PolOK.fit ok_drop st (by decide) (by decide)) (chain3 (law10 st q a) (law11 st q a)) 140 rfl (by as_aux_lemma => kernel_rfl) (wanted_by 127 rfl (by as_aux_lemma => kernel_rfl) (by as_aux_lemma => kernel_rfl) fun _ _ h => h) rfl (by as_aux_lemma => kernel_rfl) (by as_aux_lemma => kernel_rfl) (by as_aux_lemma => kernel_rfl) (fun _ _ h => h) (fun _ _ h => h) (fun _ _ h => h) fun _ => rfl, ?_⟩
            refine ⟨st_pick 127 140 141 rfl (by as_aux_lemma => kernel_rfl) (wanted_free rfl) rfl (by as_aux_lemma => kernel_rfl) (by as_aux_lemma => kernel_rfl) (fun _ _ h => h) (fun _ _ h => h) fun _ => rfl, ?_⟩
            refine ⟨st_move 141 142 rfl (by as_aux_lemma => kernel_rfl) (wanted_free rfl) (.inl rfl) (by as_aux_lemma => kernel_rfl) fun _ _ h => h, ?_⟩
            refine ⟨st_old 1 (.slice ss SL ssc) 143 rfl (by as_aux_lemma => kernel_rfl) (wanted_by 142 rfl (by as_aux_lemma => kernel_rfl) (by as_aux_lemma => kernel_rfl) fun _ _ h => h) rfl (by as_aux_lemma => kernel_rfl) rfl fun _ => rfl, ?_⟩
            refine ⟨st_load 26 5 (.pointer (some ⟨w.heap.size + 1, 0, none⟩)) q.v 144 rfl (by as_aux_lemma => kernel_rfl) (wanted_by 142 rfl (by as_aux_lemma => kernel_rfl) (by as_aux_lemma => kernel_rfl) fun _ _ h => h) rfl (by as_aux_lemma => kernel_rfl) rfl (fun w h => load8 q h.rq) fun _ _ => rfl, ?_⟩
            refine ⟨st_load 30 11 (.pointer (some ⟨ga, 0, none⟩)) (nv ⟨xo, xf, xn, .slice sa an sac⟩) 145 rfl (by as_aux_lemma => kernel_rfl) (wanted_by 142 rfl (by as_aux_lemma => kernel_rfl) (by as_aux_lemma => kernel_rfl) fun _ _ h => h) rfl (by as_aux_lemma => kernel_rfl) rfl (fun w h => load4 _ h.ra) fun _ h => ⟨_, rfl, h.pa⟩, ?_⟩
            refine ⟨st_load 30 12 (.pointer (some ⟨gb, 0, none⟩)) (nv ⟨yo, yf, yn, .slice sb bn sbc⟩) 146 rfl (by as_aux_lemma => kernel_rfl) (wanted_by 142 rfl (by as_aux_lemma => kernel_rfl) (by as_aux_lemma => kernel_rfl) fun _ _ h => h) rfl (by as_aux_lemma => kernel_rfl) rfl (fun w h => load4 _ h.rb) fun _ h => ⟨_, rfl, h.pb⟩, ?_⟩
            refine ⟨st_load 30 13 (.pointer (some ⟨gc, 0, none⟩)) (nv ⟨zo, zf, zn, .slice sc cn scc⟩) 147 rfl (by as_aux_lemma => kernel_rfl) (wanted_by 142 rfl (by as_aux_lemma => kernel_rfl) (by as_aux_lemma => kernel_rfl) fun _ _ h => h) rfl (by as_aux_lemma => kernel_rfl) rfl (fun w h => load4 _ h.rc) fun _ h => ⟨_, rfl, h.pc⟩, ?_⟩
            refine ⟨st_build2 146 147 b c 148 rfl (by as_aux_lemma => kernel_rfl) (wanted_by 142 rfl (by as_aux_lemma => kernel_rfl) (by as_aux_lemma => kernel_rfl) fun _ _ h => h) rfl (by as_aux_lemma => kernel_rfl) (by as_aux_lemma => kernel_rfl) (fun _ _ h => h) (fun _ _ h => h) fun _ _ h => h, ?_⟩
            refine ⟨st_make 19 (fun _ _ => by go_simp) 7 148 [b, c] sumF 149 rfl (by as_aux_lemma => kernel_rfl) (wanted_by 142 rfl (by as_aux_lemma => kernel_rfl) (by as_aux_lemma => kernel_rfl) fun _ _ h => h) rfl (by as_aux_lemma => kernel_rfl) (fun _ _ h => h) fun _ _ h => h, ?_⟩
            refine ⟨st_build2 145 149 a (sumP [b, c]) 150 rfl (by as_aux_lemma => kernel_rfl) (wanted_by 142 rfl (by as_aux_lemma => kernel_rfl) (by as_aux_lemma => kernel_rfl) fun _ _ h => h) rfl (by as_aux_lemma => kernel_rfl) (by as_aux_lemma => kernel_rfl) (fun _ _ h => h) (fun _ _ h => h) fun _ _ h => h, ?_⟩
            refine ⟨st_make 20 (fun _ _ => by go_simp) 6 150 [a, (sumP [b, c])] seqF 151 rfl (by as_aux_lemma => kernel_rfl) (wanted_by 142 rfl (by as_aux_lemma => kernel_rfl) (by as_aux_lemma => kernel_rfl) fun _ _ h => h) rfl (by as_aux_lemma => kernel_rfl) (fun _ _ h => h) fun _ _ h => h, ?_⟩
            refine ⟨st_load 30 11 (.pointer (some ⟨ga, 0, none⟩)) (nv ⟨xo, xf, xn, .slice sa an sac⟩) 152 rfl (by as_aux_lemma => kernel_rfl) (wanted_by 142 rfl (by as_aux_lemma => kernel_rfl) (by as_aux_lemma => kernel_rfl) fun _ _ h => h) rfl (by as_aux_lemma => kernel_rfl) rfl (fun w h => load4 _ h.ra) fun _ h => ⟨_, rfl, h.pa⟩, ?_⟩
            refine ⟨st_load 30 12 (.pointer (some ⟨gb, 0, none⟩)) (nv ⟨yo, yf, yn, .slice sb bn sbc⟩) 153 rfl (by as_aux_lemma => kernel_rfl) (wanted_by 142 rfl (by as_aux_lemma => kernel_rfl) (by as_aux_lemma => kernel_rfl) fun _ _ h => h) rfl (by as_aux_lemma => kernel_rfl) rfl (fun w h => load4 _ h.rb) fun _ h => ⟨_, rfl, h.pb⟩, ?_⟩
            refine ⟨st_build2 152 153 a b 154 rfl (by as_aux_lemma => kernel_rfl) (wanted_by 142 rfl (by as_aux_lemma => kernel_rfl) (by as_aux_lemma => kernel_rfl) fun _ _ h => h) rfl (by as_aux_lemma => kernel_rfl) (by as_aux_lemma => kernel_rfl) (fun _ _ h => h) (fun _ _ h => h) fun _ _ h => h, ?_⟩
            refine ⟨st_make 20 (fun _ _ => by go_simp) 6 154 [a, b] seqF 155 rfl (by as_aux_lemma => kernel_rfl) (wanted_by 142 rfl (by as_aux_lemma => kernel_rfl) (by as_aux_lemma => kernel_rfl) fun _ _ h => h) rfl (by as_aux_lemma => kernel_rfl) (fun _ _ h => h) fun _ _ h => h, ?_⟩
            refine ⟨st_load 30 11 (.pointer (some ⟨ga, 0, none⟩)) (nv ⟨xo, xf, xn, .slice sa an sac⟩) 156 rfl (by as_aux_lemma => kernel_rfl) (wanted_by 142 rfl (by as_aux_lemma => kernel_rfl) (by as_aux_lemma => kernel_rfl) fun _ _ h => h) rfl (by as_aux_lemma => kernel_rfl) rfl (fun w h => load4 _ h.ra) fun _ h => ⟨_, rfl, h.pa⟩, ?_⟩
            refine ⟨st_load 30 13 (.pointer (some ⟨gc, 0, none⟩)) (nv ⟨zo, zf, zn, .slice sc cn scc⟩) 157 rfl (by as_aux_lemma => kernel_rfl) (wanted_by 142 rfl (by as_aux_lemma => kernel_rfl) (by as_aux_lemma => kernel_rfl) fun _ _ h => h) rfl (by as_aux_lemma => kernel_rfl) rfl (fun w h => load4 _ h.rc) fun _ h => ⟨_, rfl, h.pc⟩, ?_⟩
            refine ⟨st_build2 156 157 a c 158 rfl (by as_aux_lemma => kernel_rfl) (wanted_by 142 rfl (by as_aux_lemma => kernel_rfl) (by as_aux_lemma => kernel_rfl) fun _ _ h => h) rfl (by as_aux_lemma => kernel_rfl) (by as_aux_lemma => kernel_rfl) (fun _ _ h => h) (fun _ _ h => h) fun _ _ h => h, ?_⟩
            refine ⟨st_make 20 (fun _ _ => by go_simp) 6 158 [a, c] seqF 159 rfl (by as_aux_lemma => kernel_rfl) (wanted_by 142 rfl (by as_aux_lemma => kernel_rfl) (by as_aux_lemma => kernel_rfl) fun _ _ h => h) rfl (by as_aux_lemma => kernel_rfl) (fun _ _ h => h) fun _ _ h => h, ?_⟩
            refine ⟨st_build2 155 159 (seqP [a, b]) (seqP [a, c]) 160 rfl (by as_aux_lemma => kernel_rfl) (wanted_by 142 rfl (by as_aux_lemma => kernel_rfl) (by as_aux_lemma => kernel_rfl) fun _ _ h => h) rfl (by as_aux_lemma => kernel_rfl) (by as_aux_lemma => kernel_rfl) (fun _ _ h => h) (fun _ _ h => h) fun _ _ h => h, ?_⟩
            refine ⟨st_make 19 (fun _ _ => by go_simp) 7 160 [(seqP [a, b]), (seqP [a, c])] sumF 161 rfl (by as_aux_lemma => kernel_rfl) (wanted_by 142 rfl (by as_aux_lemma => kernel_rfl) (by as_aux_lemma => kernel_rfl) fun _ _ h => h) rfl (by as_aux_lemma => kernel_rfl) (fun _ _ h => h) fun _ _ h => h, ?_⟩
            refine ⟨st_build2 151 161 (seqP [a, (sumP [b, c])]) (sumP [(seqP [a, b]), (seqP [a, c])]) 162 rfl (by as_aux_lemma => kernel_rfl) (wanted_by 142 rfl (by as_aux_lemma => kernel_rfl) (by as_aux_lemma => kernel_rfl) fun _ _ h => h) rfl (by as_aux_lemma => kernel_rfl) (by as_aux_lemma => kernel_rfl) (fun _ _ h => h) (fun _ _ h => h) fun _ _ h => h, ?_⟩
            refine ⟨st_alike st (.slice ss SL ssc) HM.out q HQ.out (fun w h => h.st) 143 144 162 [(seqP [a, (sumP [b, c])]), (sumP [(seqP [a, b]), (seqP [a, c])])] (by simp) (fun p hp => by
                simp only [List.mem_cons, List.not_mem_nil, or_false] at hp
                rcases hp with rfl | rfl
                · exact PolOK.fit (PolOK.seq2 HA.out (PolOK.sum2 HB.out HC.out)) st (by decide) (by decide)
                · exact PolOK.fit (PolOK.sum2 (PolOK.seq2 HA.out HB.out) (PolOK.seq2 HA.out HC.out)) st (by decide) (by decide)) (chain2 (law12 st q a b c)) 163 rfl (by as_aux_lemma => kernel_rfl) (wanted_by 142 rfl (by as_aux_lemma => kernel_rfl) (by as_aux_lemma => kernel_rfl) fun _ _ h => h) rfl (by as_aux_lemma => kernel_rfl) (by as_aux_lemma => kernel_rfl) (by as_aux_lemma => kernel_rfl) (fun _ _ h => h) (fun _ _ h => h) (fun _ _ h => h) fun _ => rfl, ?_⟩
            refine ⟨st_pick 142 163 164 rfl (by as_aux_lemma => kernel_rfl) (wanted_free rfl) rfl (by as_aux_lemma => kernel_rfl) (by as_aux_lemma => kernel_rfl) (fun _ _ h => h) (fun _ _ h => h) fun _ => rfl, ?_⟩
            refine ⟨st_move 164 165 rfl (by as_aux_lemma => kernel_rfl) (wanted_free rfl) (.inl rfl) (by as_aux_lemma => kernel_rfl) fun _ _ h => h, ?_⟩
            refine ⟨st_old 1 (.slice ss SL ssc) 166 rfl (by as_aux_lemma => kernel_rfl) (wanted_by 165 rfl (by as_aux_lemma => kernel_rfl) (by as_aux_lemma => kernel_rfl) fun _ _ h => h) rfl (by as_aux_lemma => kernel_rfl) rfl fun _ => rfl, ?_⟩
            refine ⟨st_load 26 5 (.pointer (some ⟨w.heap.size + 1, 0, none⟩)) q.v 167 rfl (by as_aux_lemma => kernel_rfl) (wanted_by 165 rfl (by as_aux_lemma => kernel_rfl) (by as_aux_lemma => kernel_rfl) fun _ _ h => h) rfl (by as_aux_lemma => kernel_rfl) rfl (fun w h => load8 q h.rq) fun _ _ => rfl, ?_⟩
            refine ⟨st_load 30 11 (.pointer (some ⟨ga, 0, none⟩)) (nv ⟨xo, xf, xn, .slice sa an sac⟩) 168 rfl (by as_aux_lemma => kernel_rfl) (wanted_by 165 rfl (by as_aux_lemma => kernel_rfl) (by as_aux_lemma => kernel_rfl) fun _ _ h => h) rfl (by as_aux_lemma => kernel_rfl) rfl (fun w h => load4 _ h.ra) fun _ h => ⟨_, rfl, h.pa⟩, ?_⟩
            refine ⟨st_load 30 12 (.pointer (some ⟨gb, 0, none⟩)) (nv ⟨yo, yf, yn, .slice sb bn sbc⟩) 169 rfl (by as_aux_lemma => kernel_rfl) (wanted_by 165 rfl (by as_aux_lemma => kernel_rfl) (by as_aux_lemma => kernel_rfl) fun _ _ h => h) rfl (by as_aux_lemma => kernel_rfl) rfl (fun w h => load4 _ h.rb) fun _ h => ⟨_, rfl, h.pb⟩, ?_⟩
            refine ⟨st_build2 168 169 a b 170 rfl (by as_aux_lemma => kernel_rfl) (wanted_by 165 rfl (by as_aux_lemma => kernel_rfl) (by as_aux_lemma => kernel_rfl) fun _ _ h => h) rfl (by as_aux_lemma => kernel_rfl) (by as_aux_lemma => kernel_rfl) (fun _ _ h => h) (fun _ _ h => h) fun _ _ h => h, ?_⟩
            refine ⟨st_make 19 (fun _ _ => by go_simp) 7 170 [a, b] sumF 171 rfl (by as_aux_lemma => kernel_rfl) (wanted_by 165 rfl (by as_aux_lemma => kernel_rfl) (by as_aux_lemma => kernel_rfl) fun _ _ h => h) rfl (by as_aux_lemma => kernel_rfl) (fun _ _ h => h) fun _ _ h => h, ?_⟩
            refine ⟨st_load 30 13 (.pointer (some ⟨gc, 0, none⟩)) (nv ⟨zo, zf, zn, .slice sc cn scc⟩) 172 rfl (by as_aux_lemma => kernel_rfl) (wanted_by 165 rfl (by as_aux_lemma => kernel_rfl) (by as_aux_lemma => kernel_rfl) fun _ _ h => h) rfl (by as_aux_lemma => kernel_rfl) rfl (fun w h => load4 _ h.rc) fun _ h => ⟨_, rfl, h.pc⟩, ?_⟩
            refine ⟨st_build2 171 172 (sumP [a, b]) c 173 rfl (by as_aux_lemma => kernel_rfl) (wanted_by 165 rfl (by as_aux_lemma => kernel_rfl) (by as_aux_lemma => kernel_rfl) fun _ _ h => h) rfl (by as_aux_lemma => kernel_rfl) (by as_aux_lemma => kernel_rfl) (fun _ _ h => h) (fun _ _ h => h) fun _ _ h => h, ?_⟩
            refine ⟨st_make 20 (fun _ _ => by go_simp) 6 173 [(sumP [a, b]), c] seqF 174 rfl (by as_aux_lemma => kernel_rfl) (wanted_by 165 rfl (by as_aux_lemma => kernel_rfl) (by as_aux_lemma => kernel_rfl) fun _ _ h => h) rfl (by as_aux_lemma => kernel_rfl) (fun _ _ h => h) fun _ _ h => h, ?_⟩
            refine ⟨st_load 30 11 (.pointer (some ⟨ga, 0, none⟩)) (nv ⟨xo, xf, xn, .slice sa an sac⟩) 175 rfl (by as_aux_lemma => kernel_rfl) (wanted_by 165 rfl (by as_aux_lemma => kernel_rfl) (by as_aux_lemma => kernel_rfl) fun _ _ h => h) rfl (by as_aux_lemma => kernel_rfl) rfl (fun w h => load4 _ h.ra) fun _ h => ⟨_, rfl, h.pa⟩, ?_⟩
            refine ⟨st_load 30 13 (.pointer (some ⟨gc, 0, none⟩)) (nv ⟨zo, zf, zn, .slice sc cn scc⟩) 176 rfl (by as_aux_lemma => kernel_rfl) (wanted_by 165 rfl (by as_aux_lemma => kernel_rfl) (by as_aux_lemma => kernel_rfl) fun _ _ h => h) rfl (by as_aux_lemma => kernel_rfl) rfl (fun w h => load4 _ h.rc) fun _ h => ⟨_, rfl, h.pc⟩, ?_⟩
            refine ⟨st_build2 175 176 a c 177 rfl (by as_aux_lemma => kernel_rfl) (wanted_by 165 rfl (by as_aux_lemma => kernel_rfl) (by as_aux_lemma => kernel_rfl) fun _ _ h => h) rfl (by as_aux_lemma => kernel_rfl) (by as_aux_lemma => kernel_rfl) (fun _ _ h => h) (fun _ _ h => h) fun _ _ h => h, ?_⟩
            refine ⟨st_make 20 (fun _ _ => by go_simp) 6 177 [a, c] seqF 178 rfl (by as_aux_lemma => kernel_rfl) (wanted_by 165 rfl (by as_aux_lemma => kernel_rfl) (by as_aux_lemma => kernel_rfl) fun _ _ h => h) rfl (by as_aux_lemma => kernel_rfl) (fun _ _ h => h) fun _ _ h => h, ?_⟩
            refine ⟨st_load 30 12 (.pointer (some ⟨gb, 0, none⟩)) (nv ⟨yo, yf, yn, .slice sb bn sbc⟩) 179 rfl (by as_aux_lemma => kernel_rfl) (wanted_by 165 rfl (by as_aux_lemma => kernel_rfl) (by as_aux_lemma => kernel_rfl) fun _ _ h => h) rfl (by as_aux_lemma => kernel_rfl) rfl (fun w h => load4 _ h.rb) fun _ h => ⟨_, rfl, h.pb⟩, ?_⟩
            refine ⟨st_load 30 13 (.pointer (some ⟨gc, 0, none⟩)) (nv ⟨zo, zf, zn, .slice sc cn scc⟩) 180 rfl (by as_aux_lemma => kernel_rfl) (wanted_by 165 rfl (by as_aux_lemma => kernel_rfl) (by as_aux_lemma => kernel_rfl) fun _ _ h => h) rfl (by as_aux_lemma => kernel_rfl) rfl (fun w h => load4 _ h.rc) fun _ h => ⟨_, rfl, h.pc⟩, ?_⟩
            refine ⟨st_build2 179 180 b c 181 rfl (by as_aux_lemma => kernel_rfl) (wanted_by 165 rfl (by as_aux_lemma => kernel_rfl) (by as_aux_lemma => kernel_rfl) fun _ _ h => h) rfl (by as_aux_lemma => kernel_rfl) (by as_aux_lemma => kernel_rfl) (fun _ _ h => h) (fun _ _ h => h) fun _ _ h => h, ?_⟩
            refine ⟨st_make 20 (fun _ _ => by go_simp) 6 181 [b, c] seqF 182 rfl (by as_aux_lemma => kernel_rfl) (wanted_by 165 rfl (by as_aux_lemma => kernel_rfl) (by as_aux_lemma => kernel_rfl) fun _ _ h => h) rfl (by as_aux_lemma => kernel_rfl) (fun _ _ h => h) fun _ _ h => h, ?_⟩
            refine ⟨st_build2 178 182 (seqP [a, c]) (seqP [b, c]) 183 rfl (by as_aux_lemma => kernel_rfl) (wanted_by 165 rfl (by as_aux_lemma => kernel_rfl) (by as_aux_lemma => kernel_rfl) fun _ _ h => h) rfl (by as_aux_lemma => kernel_rfl) (by as_aux_lemma => kernel_rfl) (fun _ _ h => h) (fun _ _ h => h) fun _ _ h => h, ?_⟩
            refine ⟨st_make 19 (fun _ _ => by go_simp) 7 183 [(seqP [a, c]), (seqP [b, c])] sumF 184 rfl (by as_aux_lemma => kernel_rfl) (wanted_by 165 rfl (by as_aux_lemma => kernel_rfl) (by as_aux_lemma => kernel_rfl) fun _ _ h => h) rfl (by as_aux_lemma => kernel_rfl) (fun _ _ h => h) fun _ _ h => h, ?_⟩
            refine ⟨st_build2 174 184 (seqP [(sumP [a, b]), c]) (sumP [(seqP [a, c]), (seqP [b, c])]) 185 rfl (by as_aux_lemma => kernel_rfl) (wanted_by 165 rfl (by as_aux_lemma => kernel_rfl) (by as_aux_lemma => kernel_rfl) fun _ _ h => h) rfl (by as_aux_lemma => kernel_rfl) (by as_aux_lemma => kernel_rfl) (fun _ _ h => h) (fun _ _ h => h) fun _ _ h => h, ?_⟩
            refine ⟨st_alike st (.slice ss SL ssc) HM.out q HQ.out (fun w h => h.st) 166 167 185 [(seqP [(sumP [a, b]), c]), (sumP [(seqP [a, c]), (seqP [b, c])])] (by simp) (fun p hp => by
                simp only [List.mem_cons, List.not_mem_nil, or_false] at hp
                rcases hp with rfl | rfl
                · exact PolOK.fit (PolOK.seq2 (PolOK.sum2 HA.out HB.out) HC.out) st (by decide) (by decide)
                · exact PolOK.fit (PolOK.sum2 (PolOK.seq2 HA.out HC.out) (PolOK.seq2 HB.out HC.out)) st (by decide) (by decide)) (chain2 (law13 st q a b c)) 186 rfl (by as_aux_lemma => kernel_rfl) (wanted_by 165 rfl (by as_aux_lemma => kernel_rfl) (by as_aux_lemma => kernel_rfl) fun _ _ h => h) rfl (by as_aux_lemma => kernel_rfl) (by as_aux_lemma => kernel_rfl) (by as_aux_lemma => kernel_rfl) (fun _ _ h => h) (fun _ _ h => h) (fun _ _ h => h) fun _ => rfl, ?_⟩
            refine ⟨st_pick 165 186 187 rfl (by as_aux_lemma => kernel_rfl) (wanted_free rfl) rfl (by as_aux_lemma => kernel_rfl) (by as_aux_lemma => kernel_rfl) (fun _ _ h => h) (fun _ _ h => h) fun _ => rfl, ?_⟩
            refine ⟨st_move 187 6 rfl (by as_aux_lemma => kernel_rfl) (wanted_free rfl) (.inr rfl) (by as_aux_lemma => kernel_rfl) fun _ _ h => h, ?_⟩
            trivial
          · intro a w4 hB hO hD
            obtain ⟨v6, e6, h6⟩ := Slot.getD (hD 137 _ 6 rfl rfl)
            obtain rfl : v6 = .bool true := h6
            have HB := hide hB.bel
            have hdef := hO.2.1
            clear hD hB hO
            go_wp2_with fail
            refine bodyPost_ret (v := a.tmps.getD 6 undef) (results_tmp rfl _ _ _) hdef ⟨by rw [e6], HB.out⟩
end Go.Proofs.Ytipiepcbgjceaaa
/- The statement PolicyLawsSaid: for every three lists of steps, every state and every packet the law PolicyLaws returns true and leaves its arguments as they were; nothing is asked of the input. -/
set_option linter.unusedVariables false
set_option linter.unusedSimpArgs false
namespace Go.Proofs.Ytipiepcbgjceaaa
open Go.ChangeShapes Go.WideShapes Go.ChangeAt Go.RowKit Go.ChangeMaps Go.Joins

set_option maxRecDepth 100000 in
theorem laws_contract (H : Type) (enc : TypeId × Value → H) (W : World) (base : Nat) (args : Array Value) (ds gs : List (DataW H)) (before : List MemPlace)
    (hval : ∀ (j : Nat) t v, Try.f5.params[j]? = some t → args[j]? = some v → Value.okWide Try.prog W .any base t v)
    (hW : DataW.Whole enc Try.prog Try.f5.params.toList Rows.policyLawsSpec.vars false W args.toList ds gs before) :
    Calls Try.prog 5 args W fun e W' => ∃ v, e = .returned v ∧ Rows.policyLawsSpec.post enc Try.prog Try.f5 false true false false W args v W' := by
  have hW' := hW
  obtain ⟨p, q, hA0, hV, rfl, hfz, hnd⟩ := hW
  have hA : DataW.TrodAll enc Try.prog W 0 (fun _ => true) true Try.f5.params.toList args.toList ds p := hA0
  have hA1 := hA
  rw [Try.params5] at hA hval
  obtain ⟨v0, vs0, d0, ds0, p0, q0, hargs, rfl, rfl, h0, r0⟩ := trodAll_cons hA
  obtain ⟨v1, vs1, d1, ds1, p1, q1, rfl, rfl, rfl, h1, r1⟩ := trodAll_cons r0
  obtain ⟨v2, vs2, d2, ds2, p2, q2, rfl, rfl, rfl, h2, r2⟩ := trodAll_cons r1
  obtain ⟨rfl, rfl, rfl⟩ := trodAll_nil r2
  obtain rfl : args = #[v0, v1, v2] := Array.toList_inj.1 hargs
  obtain ⟨rfl, rfl⟩ := trodVars_none hV
  obtain ⟨cs, rfl⟩ := okWide_array Try.underlying47 (hval 0 47 v0 rfl rfl)
  obtain ⟨s1, n1, sc1, rfl⟩ := okWide_slice Try.underlying23 (hval 1 23 v1 rfl rfl)
  obtain ⟨ps, rfl⟩ := okWide_array Try.underlying26 (hval 2 26 v2 rfl rfl)
  obtain ⟨m0, hm0⟩ := h0
  obtain ⟨m1, hm1⟩ := h1
  obtain ⟨m2, hm2⟩ := h2
  obtain ⟨w0, w1, w2, hcs, ⟨l0, a0, c0, rfl, k0, k1, k2⟩, ⟨l1, a1, c1, rfl, j0, j1, j2⟩, ⟨l2, a2, c2, rfl, g0, g1, g2⟩⟩ := steps3_of_trod hm0
  obtain ⟨st, rfl, i0, i1, i2⟩ := nums_of_trod (show DataW.trod enc Try.prog W 0 _ true m1 23 [.slice s1 n1 sc1] = some _ from hm1)
  obtain ⟨b0, b1, b2, b3, b4, b5, b6, b7, hps, hbd⟩ := packet_of_trod hm2
  have ecs : cs = #[.slice a0 l0.length c0, .slice a1 l1.length c1, .slice a2 l2.length c2] := by apply Array.toList_inj.1; exact hcs
  have eps := packet_is (cs := ps) hps
  subst ecs
  have walk : Calls Try.prog 5 #[.agg #[.slice a0 l0.length c0, .slice a1 l1.length c1, .slice a2 l2.length c2], .slice s1 st.length sc1, .agg ps] W fun e w' => e = .returned (.bool true) ∧ Below W.heap.size W w' := by
    rw [eps]
    exact laws_any l0 l1 l2 _ _ _ st _ ⟨b0, b1, b2, b3, b4, b5, b6, b7⟩ W k1 k0 k2 j1 j0 j2 g1 g0 g2 i1 i0 hbd
  refine walk.mono fun e W' ⟨he, bel⟩ => ?_
  subst he
  have hback := trodAll_below bel _ _ _ _ (by rw [Try.params5]; intro t ht; simp at ht; rcases ht with rfl | rfl | rfl <;> exact ⟨by kernel_rfl, of_decide_eq_true (by kernel_rfl)⟩) hA1
  exact ⟨_, rfl, _, _, _, [], _, [], hW', trodAll_mk1 (shut_bool Try.underlying4 _), hback, rfl, bel.frame _, fun h => by cases h⟩

set_option maxRecDepth 100000 in
theorem laws_lifted (os : Os) (started : os.Started) (H : Type) (enc : TypeId × Value → H) :
    ReturnsInHanded {} Try.checked os 5 .any (Rows.policyLawsSpec.pre6 enc Try.prog Try.f5 Rows.policyLawsRow.domain false) (Rows.policyLawsSpec.post enc Try.prog Try.f5 false true false false) := by
  refine returnsInHanded_of_change (C := Try.checked) own started (by kernel_rfl) Try.func5
    (ChangeSpec.witness6 (enc := enc) (C := Try.checked) false ⟨#[], #[.agg #[.slice none 0 0, .slice none 0 0, .slice none 0 0], .slice none 0 0, pk 0 0 0 0 0 0 0 0], []⟩ 8 (by kernel_rfl) (by kernel_rfl) (by kernel_rfl) (by kernel_rfl)) ?_
  intro W base args ds gs before hval hW _ _
  exact laws_contract H enc W base args ds gs before hval hW

theorem laws_holds : Rows.PolicyLawsSaid :=
  OpenClaim.holds_of_wide 5 Try.f5 rfl rfl rfl rfl rfl rfl rfl ⟨rfl, rfl, rfl, rfl, rfl⟩ rfl rfl rfl rfl rfl (by kernel_rfl) Try.func5 (by kernel_rfl)
    (of_decide_eq_true (by kernel_rfl)) (by unfold Func.isWrapper; first | (rw [if_pos (by decide +kernel)]; kernel_rfl) | (rw [if_neg (by decide +kernel)]; exact ⟨rfl, rfl⟩))
    (fun os started H enc _ => laws_lifted os started H enc)
end Go.Proofs.Ytipiepcbgjceaaa
