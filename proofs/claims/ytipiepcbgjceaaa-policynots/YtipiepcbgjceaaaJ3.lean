/- What Sum, Seq and not of the law answer, and that policies which agree are alike; no conditions but sizes. -/
import Derived.Test.YtipiepcbgjceaaaJ2
set_option linter.unusedVariables false
set_option linter.unusedSimpArgs false
namespace Go.Proofs.Ytipiepcbgjceaaa
open Go.RowKit Go.Joins Go.Sort

abbrev All : Nat → Prop := fun _ => True
/-- Two policies in a row of two. -/
theorem lit2 {w : World} {a b : Pl} {x y : Nd} (op : Int) (ha : PolAt All w a x) (hb : PolAt All w b y) :
    PolAt All (w.alloc (.cells #[.int .i64 x.op, .int .i64 x.f, .int .u16 x.n, x.kv, .int .i64 y.op, .int .i64 y.f, .int .u16 y.n, y.kv] 30)) (.mk op 0 0 [a, b]) ⟨op, 0, 0, .slice (some ⟨w.heap.size, 0, none⟩) 2 2⟩ := by
  have hbl : Below w.heap.size w (w.alloc (.cells #[.int .i64 x.op, .int .i64 x.f, .int .u16 x.n, x.kv, .int .i64 y.op, .int .i64 y.f, .int .u16 y.n, y.kv] 30)) := (Below.refl _ w).alloc (Nat.le_refl _) _
  have hr := heap_alloc_new w (.cells #[.int .i64 x.op, .int .i64 x.f, .int .u16 x.n, x.kv, .int .i64 y.op, .int .i64 y.f, .int .u16 y.n, y.kv] 30)
  have ho : (w.alloc (.cells #[.int .i64 x.op, .int .i64 x.f, .int .u16 x.n, x.kv, .int .i64 y.op, .int .i64 y.f, .int .u16 y.n, y.kv] 30)).ownsRow 0 30 4 (.slice (some ⟨w.heap.size, 0, none⟩) 2 2) [x, y].length (flat4 [x, y]) :=
    ⟨rfl, .inr ⟨w.heap.size, 2, _, rfl, Nat.zero_le _, hr, Nat.le_refl _, by decide, rfl, rfl⟩⟩
  exact pol_of_own op 0 0 ho ((PolsAt.one (ha.below hbl)).snoc (hb.below hbl)) (fun _ _ _ => trivial) fun _ _ => trivial
theorem lit3 {w : World} {a b c : Pl} {x y z : Nd} (op : Int) (ha : PolAt All w a x) (hb : PolAt All w b y) (hc : PolAt All w c z) :
    PolAt All (w.alloc (.cells #[.int .i64 x.op, .int .i64 x.f, .int .u16 x.n, x.kv, .int .i64 y.op, .int .i64 y.f, .int .u16 y.n, y.kv, .int .i64 z.op, .int .i64 z.f, .int .u16 z.n, z.kv] 30)) (.mk op 0 0 [a, b, c]) ⟨op, 0, 0, .slice (some ⟨w.heap.size, 0, none⟩) 3 3⟩ := by
  have hbl : Below w.heap.size w (w.alloc (.cells #[.int .i64 x.op, .int .i64 x.f, .int .u16 x.n, x.kv, .int .i64 y.op, .int .i64 y.f, .int .u16 y.n, y.kv, .int .i64 z.op, .int .i64 z.f, .int .u16 z.n, z.kv] 30)) := (Below.refl _ w).alloc (Nat.le_refl _) _
  have hr := heap_alloc_new w (.cells #[.int .i64 x.op, .int .i64 x.f, .int .u16 x.n, x.kv, .int .i64 y.op, .int .i64 y.f, .int .u16 y.n, y.kv, .int .i64 z.op, .int .i64 z.f, .int .u16 z.n, z.kv] 30)
  have ho : (w.alloc (.cells #[.int .i64 x.op, .int .i64 x.f, .int .u16 x.n, x.kv, .int .i64 y.op, .int .i64 y.f, .int .u16 y.n, y.kv, .int .i64 z.op, .int .i64 z.f, .int .u16 z.n, z.kv] 30)).ownsRow 0 30 4 (.slice (some ⟨w.heap.size, 0, none⟩) 3 3) [x, y, z].length (flat4 [x, y, z]) :=
    ⟨rfl, .inr ⟨w.heap.size, 3, _, rfl, Nat.zero_le _, hr, Nat.le_refl _, by decide, rfl, rfl⟩⟩
  exact pol_of_own op 0 0 ho (((PolsAt.one (ha.below hbl)).snoc (hb.below hbl)).snoc (hc.below hbl)) (fun _ _ _ => trivial) fun _ _ => trivial
set_option maxRecDepth 100000 in
set_option maxHeartbeats 1000000 in
theorem sumF (sa : Option Addr) (n c : Nat) (w : World) : Calls Try.prog 19 #[.slice sa n c] w fun e w' => e = .returned (nv ⟨7, 0, 0, .slice sa n c⟩) ∧ Below w.heap.size w w' := by
  obtain ⟨g0, g1, g2, g3⟩ := row4 (heap_alloc_new w (pobj ⟨7, 0, 0, .slice sa n c⟩))
  go_enter Try.func19, Try.ntmps19
  go_wp2
  refine bodyPost_ret (v := nv ⟨7, 0, 0, .slice sa n c⟩) ?_ rfl ⟨rfl, (Below.refl _ w).alloc (Nat.le_refl _) _⟩
  simp [results, Try.results19, go_sem, g0, g1, g2, g3]
set_option maxRecDepth 100000 in
set_option maxHeartbeats 1000000 in
theorem seqF (sa : Option Addr) (n c : Nat) (w : World) : Calls Try.prog 20 #[.slice sa n c] w fun e w' => e = .returned (nv ⟨6, 0, 0, .slice sa n c⟩) ∧ Below w.heap.size w w' := by
  obtain ⟨g0, g1, g2, g3⟩ := row4 (heap_alloc_new w (pobj ⟨6, 0, 0, .slice sa n c⟩))
  go_enter Try.func20, Try.ntmps20
  go_wp2
  refine bodyPost_ret (v := nv ⟨6, 0, 0, .slice sa n c⟩) ?_ rfl ⟨rfl, (Below.refl _ w).alloc (Nat.le_refl _) _⟩
  simp [results, Try.results20, go_sem, g0, g1, g2, g3]
set_option maxRecDepth 100000 in
set_option maxHeartbeats 1000000 in
theorem notF (T : Pl) (x : Nd) (w : World) (hp : PolAt All w T x) : Calls Try.prog 22 #[nv x] w fun e w' => ∃ g, e = .returned (nv ⟨4, 0, 0, .slice (some ⟨g, 0, none⟩) 1 1⟩) ∧ PolAt All w' (notP T) ⟨4, 0, 0, .slice (some ⟨g, 0, none⟩) 1 1⟩ ∧ Below w.heap.size w w' := by
  obtain ⟨-, -, -, sa, sc, hkv⟩ := hp.shape
  obtain ⟨xo, xf, xn, xk⟩ := x
  dsimp only at hkv
  subst hkv
  generalize T.kids.length = kn at *
  have hb0 : Below w.heap.size w ((w.alloc (pobj ⟨xo, xf, xn, .slice sa kn sc⟩)).alloc (pobj ⟨4, 0, 0, .slice (some ⟨w.heap.size + 1 + 1, 0, none⟩) 1 1⟩)) := ((Below.refl _ w).alloc (Nat.le_refl _) _).alloc (by simp) _
  have hb1 := hb0.alloc hb0.size (pobj ⟨xo, xf, xn, .slice sa kn sc⟩)
  have hr1 : (((w.alloc (pobj ⟨xo, xf, xn, .slice sa kn sc⟩)).alloc (pobj ⟨4, 0, 0, .slice (some ⟨w.heap.size + 1 + 1, 0, none⟩) 1 1⟩)).alloc (pobj ⟨xo, xf, xn, .slice sa kn sc⟩)).heap[w.heap.size + 1]? = some (pobj ⟨4, 0, 0, .slice (some ⟨w.heap.size + 1 + 1, 0, none⟩) 1 1⟩) := (Below.heap_alloc _ _ _ (by simp)).trans (heap_alloc2_new w _ _)
  have hr2 : (((w.alloc (pobj ⟨xo, xf, xn, .slice sa kn sc⟩)).alloc (pobj ⟨4, 0, 0, .slice (some ⟨w.heap.size + 1 + 1, 0, none⟩) 1 1⟩)).alloc (pobj ⟨xo, xf, xn, .slice sa kn sc⟩)).heap[w.heap.size + 1 + 1]? = some (pobj ⟨xo, xf, xn, .slice sa kn sc⟩) := heap_alloc3_new w _ _ _
  have hr0 : ((w.alloc (pobj ⟨xo, xf, xn, .slice sa kn sc⟩)).alloc nobj).heap[w.heap.size]? = some (pobj ⟨xo, xf, xn, .slice sa kn sc⟩) := (Below.heap_alloc _ _ _ (by simp)).trans (heap_alloc_new w _)
  have HE : Hid (PolAt All (((w.alloc (pobj ⟨xo, xf, xn, .slice sa kn sc⟩)).alloc (pobj ⟨4, 0, 0, .slice (some ⟨w.heap.size + 1 + 1, 0, none⟩) 1 1⟩)).alloc (pobj ⟨xo, xf, xn, .slice sa kn sc⟩)) (notP T) ⟨4, 0, 0, .slice (some ⟨w.heap.size + 1 + 1, 0, none⟩) 1 1⟩ ∧ Below w.heap.size w (((w.alloc (pobj ⟨xo, xf, xn, .slice sa kn sc⟩)).alloc (pobj ⟨4, 0, 0, .slice (some ⟨w.heap.size + 1 + 1, 0, none⟩) 1 1⟩)).alloc (pobj ⟨xo, xf, xn, .slice sa kn sc⟩))) := by
    refine ⟨?_, hb1⟩
    exact pol_of_own (lo := 0) (xs := [⟨xo, xf, xn, .slice sa kn sc⟩]) 4 0 0 ⟨rfl, .inr ⟨w.heap.size + 1 + 1, 1, _, rfl, Nat.zero_le _, hr2, Nat.le_refl _, by decide, rfl, rfl⟩⟩ (PolsAt.one (hp.below hb1)) (fun _ _ _ => trivial) fun _ _ => trivial
  obtain ⟨q0, q1, q2, q3⟩ := row4 hr0
  obtain ⟨g0, g1, g2, g3⟩ := row4 hr1
  clear hp hb0 hb1 hr0 hr1 hr2
  go_enter Try.func22, Try.ntmps22
  go_wp2
  refine bodyPost_ret (v := nv ⟨4, 0, 0, .slice (some ⟨w.heap.size + 1 + 1, 0, none⟩) 1 1⟩) ?_ rfl ⟨_, rfl, HE.out.1, HE.out.2⟩
  simp [results, Try.results22, go_sem, g0, g1, g2, g3]

/-- Policies behind a slice, as Sum takes them. -/
abbrev Lots (w : World) (v : Value) (ps : List Pl) : Prop := PolAt All w (.mk 7 0 0 ps) ⟨7, 0, 0, v⟩
/-- What alike asks of a policy ahead of its answer. -/
structure FitA (st : List Nat) (T : Pl) : Prop where
  size : sizeP T ≤ 1000
  ok : okN T
  form : okT T = true
  works : Works st T
/-- Those that follow on one another agree. -/
def Chain (st : List Nat) (q : P8) (ps : List Pl) : Prop := ∀ k (h : k + 1 < ps.length), Agree st q (ps[k]'(by omega)) ps[k + 1]

set_option maxRecDepth 100000 in
set_option maxHeartbeats 8000000 in
theorem alike_any (st : List Nat) (sv : Value) (hm63 : st.length ≤ 9223372036854775807) (q : P8) (hq : Q8 q) (ps : List Pl) (v : Value) (w : World) (hst : StAt w sv st) (hv : Lots w v ps) (hl : ps.length ≤ 100) (hf : ∀ p ∈ ps, FitA st p) (hc : Chain st q ps) :
    Calls Try.prog 18 #[sv, q.v, v] w fun e w' => e = .returned (.bool true) ∧ Below w.heap.size w w' := by
  have hb0 : Below w.heap.size w (w.alloc (pobj8 q)) := (Below.refl _ w).alloc (Nat.le_refl _) _
  obtain ⟨va, vc, e, hk⟩ := hv.open
  simp only [Nd.mk.injEq, true_and] at e
  subst e
  have HK : Hid _ := hk
  have HST : Hid (StAt w sv st) := hst
  have HF : Hid _ := hf
  have HC : Hid (Chain st q ps) := hc
  have HQ : Hid (Q8 q) := hq
  have HM63 : Hid _ := hm63
  have HB0 : Hid (Below w.heap.size w (w.alloc (pobj8 q))) := hb0
  have HX0 : Hid ((w.alloc (pobj8 q)).heap[w.heap.size]? = some (pobj8 q)) := heap_alloc_new w _
  obtain ⟨ss, ssc, rfl, -⟩ := hst
  obtain ⟨SL, eSL⟩ : ∃ SL, st.length = SL := ⟨_, rfl⟩
  rw [eSL] at HST ⊢
  obtain ⟨R, eR⟩ : ∃ R, ps.length = R := ⟨_, rfl⟩
  have HER : Hid (ps.length = R) := eR
  rw [eR] at hl ⊢
  clear hb0 hk hf hc hq hv hm63 eR
  go_enter Try.func18, Try.ntmps18
  go_wp2_with fail
  go_loopw [7, 14] (fun wv i wr => ∃ (k : Nat), k ≤ R ∧ i = .int .i64 (k : Int) ∧ Hid (Below w.heap.size w wr) ∧ Hid (wr.heap[w.heap.size]? = some (pobj8 q)) ∧ Hid (∀ h : k - 1 < ps.length, 0 < k → ∃ l, mkP st ps[k - 1] q = some l ∧ Pv wr wv l)) (fun _ i _ => R - (intOf i).toNat)
  case atStart => exact ⟨0, Nat.zero_le _, rfl, HB0, HX0, fun h h0 => by omega⟩
  case round =>
    clear HB0 HX0
    obtain ⟨k, hkl, rfl, HB, HX, HW⟩ := hrel
    by_cases hlt : k < R
    · have hlt' : k < ps.length := by rw [HER.out]; exact hlt
      obtain ⟨b, off, sa2, n2, sc2, y0, y1, y2, rfl, hb, ha, hp⟩ := HK.out k hlt'
      obtain ⟨a0, a1, a2, a3⟩ := ha.same (HB.out.block b hb)
      have hwr := HB.out.size
      have hfk := HF.out _ (List.getElem_mem hlt')
      have HW2 : Hid _ := HW.out
      obtain ⟨WA, hWA⟩ : ∃ WA, WA = wr.alloc (pobj ⟨y0, y1, y2, .slice sa2 n2 sc2⟩) := ⟨_, rfl⟩
      have hba : Below wr.heap.size wr WA := by rw [hWA]; exact (Below.refl _ _).alloc (Nat.le_refl _) _
      have HBA : Hid (Below w.heap.size w WA) := HB.out.trans (hba.mono hwr)
      have HXA : Hid (WA.heap[w.heap.size]? = some (pobj8 q)) := (hba.block _ (heap_lt HX.out)).trans HX.out
      have hcell : WA.heap[wr.heap.size]? = some (pobj ⟨y0, y1, y2, .slice sa2 n2 sc2⟩) := by rw [hWA]; exact heap_alloc_new _ _
      have cM := make_any (P := All) st (.slice ss SL ssc) HM63.out ps[k] ⟨y0, y1, y2, .slice sa2 n2 sc2⟩ q WA hfk.size hfk.ok HQ.out (hp.below HBA.out) (HST.out.below HBA.out) (fun _ => hfk.works)
      have HPrev : Hid (∀ h0 : 0 < k, ∃ l, mkP st (ps[k - 1]'(by omega)) q = some l ∧ Pv WA u7 l) := fun h0 => by
        obtain ⟨l, h1, h2⟩ := HW.out (by omega) h0
        exact ⟨l, h1, h2.below hba⟩
      have HAg : Hid (∀ h0 : 0 < k, Agree st q (ps[k - 1]'(by omega)) ps[k]) := fun h0 => by
        have := HC.out (k - 1) (by omega)
        have e : k - 1 + 1 = k := by omega
        simp only [e] at this
        exact this
      obtain ⟨q0, q1, q2, q3⟩ := row4 hcell
      obtain ⟨⟨c0, c1, c2, c3, c4, c5, c6, c7⟩, -, -⟩ := row8 HXA.out
      have hform := hfk.form
      have HT : Hid (∀ h : k < ps.length, ps[k] = ps[k]) := fun _ => rfl
      obtain ⟨T, hT⟩ : ∃ T, ps[k] = T := ⟨_, rfl⟩
      have HTe : Hid (ps[k] = T) := hT
      rw [hT] at cM hform HAg
      clear hp ha hfk hba hcell hT
      subst hWA
      go_wp2_with fail
      refine cM.mono ?_
      rintro e w1 ⟨v1, z, rfl, hb1, hr⟩
      have HB1 : Hid (Below w.heap.size w w1) := HBA.out.trans (hb1.mono HBA.out.size)
      have HX1 : Hid (w1.heap[w.heap.size]? = some (pobj8 q)) := (hb1.block _ (heap_lt HXA.out)).trans HXA.out
      have HR : Hid ((z = 24 ∧ mkP st T q = none ∧ v1 = .slice none 0 0) ∨ (z = 0 ∧ ∃ l, mkP st T q = some l ∧ Pv w1 v1 l)) := by
        rcases hr with ⟨h1, -, -⟩ | ⟨-, h2, h3, h4⟩ | ⟨-, l, h2, h3, h4⟩
        · rw [hform] at h1; cases h1
        · exact .inl ⟨h3, h2, h4⟩
        · exact .inr ⟨h3, l, h2, h4⟩
      have HPrev1 : Hid (∀ h0 : 0 < k, ∃ l, mkP st (ps[k - 1]'(by omega)) q = some l ∧ Pv w1 u7 l) := fun h0 => by
        obtain ⟨l, h1, h2⟩ := HPrev.out h0
        exact ⟨l, h1, h2.below hb1⟩
      clear hb1 hr cM HPrev HBA HXA q0 q1 q2 q3 c0 c1 c2 c3 c4 c5 c6 c7 a0 a1 a2 a3
      rcases HR.out with ⟨rfl, h2, rfl⟩ | ⟨rfl, l, h2, hv1⟩
      · clear h2 HR
        go_wp2
        go_ret
        exact ⟨rfl, HB1.out⟩
      · obtain ⟨xa, xc, rfl, -⟩ := hv1.shape
        have HV1 : Hid (Pv w1 (.slice xa l.length xc) l) := hv1
        have H2 : Hid (mkP st T q = some l) := h2
        have hll := mkP_len st T q l h2
        clear hv1 h2 HR
        by_cases hk0 : 0 < k
        · have d0 : decide (0 < (k : Int)) = true := by simp; omega
          obtain ⟨l', h3, hv7⟩ := HPrev1.out hk0
          obtain rfl : l' = l := HAg.out hk0 l' l h3 H2.out
          obtain ⟨ya, yc, rfl, -⟩ := hv7.shape
          have cSm := same25 (.slice xa l'.length xc) (.slice ya l'.length yc) l' (by omega) w1 HV1.out.pks hv7.pks
          clear h3 hv7
          go_wp2_with fail
          refine cSm.mono ?_
          rintro e w2 ⟨rfl, hb2⟩
          have HB2 : Hid (Below w.heap.size w w2) := HB1.out.trans (hb2.mono HB1.out.size)
          have HX2 : Hid (w2.heap[w.heap.size]? = some (pobj8 q)) := (hb2.block _ (heap_lt HX1.out)).trans HX1.out
          have HW3 : Hid (∀ h : k + 1 - 1 < ps.length, 0 < k + 1 → ∃ l, mkP st ps[k + 1 - 1] q = some l ∧ Pv w2 (.slice xa l'.length xc) l) := fun h _ => by
            have e : k + 1 - 1 = k := by omega
            simp only [e, HTe.out]
            exact ⟨l', H2.out, HV1.out.below hb2⟩
          clear hb2 cSm HV1 HB1 HX1 HPrev1 HAg
          go_wp2
          go_roundw
          case rel => exact ⟨k + 1, by omega, by go_num, HB2, HX2, HW3⟩
          case measure => simp [intOf]; omega
        · have d0 : decide (0 < (k : Int)) = false := by simp; omega
          have HW3 : Hid (∀ h : k + 1 - 1 < ps.length, 0 < k + 1 → ∃ l2, mkP st ps[k + 1 - 1] q = some l2 ∧ Pv w1 (.slice xa l.length xc) l2) := fun h _ => by
            have e : k + 1 - 1 = k := by omega
            simp only [e, HTe.out]
            exact ⟨l, H2.out, HV1.out⟩
          clear HV1 HPrev1 HAg
          generalize l.length = ll at *
          go_wp2
          go_roundw
          case rel => exact ⟨k + 1, by omega, by go_num, HB1, HX1, HW3⟩
          case measure => simp [intOf]; omega
    · obtain rfl : k = R := by omega
      go_wp2
      go_ret
      exact ⟨rfl, HB.out⟩
end Go.Proofs.Ytipiepcbgjceaaa
