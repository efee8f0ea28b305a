/- What Sum, Seq and not of the law answer, and that policies which agree are alike; no conditions but sizes. -/
import Derived.Test.YtipiepcbgjceaaaJ2
import Derived.Test.YtipiepcbgjceaaaR1
set_option linter.unusedVariables false
set_option linter.unusedSimpArgs false
namespace Go.Proofs.Ytipiepcbgjceaaa
open Go.RowKit Go.Joins Go.Sort

abbrev All : Nat → Prop := fun _ => True
/-- Two policies in a row of two. -/
theorem lit2 {w : World} {a b : Pl} {x y : Nd} (op : Int) (ha : PolAt All w a x) (hb : PolAt All w b y) :
    PolAt All (w.alloc (.cells #[.int .i64 x.op, .int .i64 x.f, .int .u16 x.n, x.kv, .int .i64 y.op, .int .i64 y.f, .int .u16 y.n, y.kv] 30)) (.mk op 0 0 [a, b]) ⟨op, 0, 0, .slice (some ⟨w.heap.size, 0, none⟩) 2 2⟩ := by
  have hbl : Below w.heap.size w (w.alloc (.cells #[.int .i64 x.op, .int .i64 x.f, .int .u16 x.n, x.kv, .int .i64 y.op, .int .i64 y.f, .int .u16 y.n, y.kv] 30)) := (Below.refl _ w).alloc (Nat.le_refl _) _
  have hr := heap_alloc_new w (.cells #[.int .i64 x.op, .int .i64 x.f, .int .u16 x.n, x.kv, .int .i64 y.op, .int .i64 y.f, .int .u16 y.n, y.kv] 30)
  have ho : (w.alloc (.cells #[.int .i64 x.op, .int .i64 x.f, .int .u16 x.n, x.kv, .int .i64 y.op, .int .i64 y.f, .int .u16 y.n, y.kv] 30)).ownsRow 0 30 4 (.slice (some ⟨w.heap.size, 0, none⟩) 2 2) [x, y].length (flat4 [x, y]) :=
    ⟨rfl, .inr ⟨w.heap.size, 2, _, rfl, Nat.zero_le _, hr, Nat.le_refl _, by decide, rfl, rfl⟩⟩
  exact pol_of_own op 0 0 ho ((PolsAt.one (ha.below hbl)).snoc (hb.below hbl)) (fun _ _ _ => trivial) fun _ _ => trivial
theorem lit3 {w : World} {a b c : Pl} {x y z : Nd} (op : Int) (ha : PolAt All w a x) (hb : PolAt All w b y) (hc : PolAt All w c z) :
    PolAt All (w.alloc (.cells #[.int .i64 x.op, .int .i64 x.f, .int .u16 x.n, x.kv, .int .i64 y.op, .int .i64 y.f, .int .u16 y.n, y.kv, .int .i64 z.op, .int .i64 z.f, .int .u16 z.n, z.kv] 30)) (.mk op 0 0 [a, b, c]) ⟨op, 0, 0, .slice (some ⟨w.heap.size, 0, none⟩) 3 3⟩ := by
  have hbl : Below w.heap.size w (w.alloc (.cells #[.int .i64 x.op, .int .i64 x.f, .int .u16 x.n, x.kv, .int .i64 y.op, .int .i64 y.f, .int .u16 y.n, y.kv, .int .i64 z.op, .int .i64 z.f, .int .u16 z.n, z.kv] 30)) := (Below.refl _ w).alloc (Nat.le_refl _) _
  have hr := heap_alloc_new w (.cells #[.int .i64 x.op, .int .i64 x.f, .int .u16 x.n, x.kv, .int .i64 y.op, .int .i64 y.f, .int .u16 y.n, y.kv, .int .i64 z.op, .int .i64 z.f, .int .u16 z.n, z.kv] 30)
  have ho : (w.alloc (.cells #[.int .i64 x.op, .int .i64 x.f, .int .u16 x.n, x.kv, .int .i64 y.op, .int .i64 y.f, .int .u16 y.n, y.kv, .int .i64 z.op, .int .i64 z.f, .int .u16 z.n, z.kv] 30)).ownsRow 0 30 4 (.slice (some ⟨w.heap.size, 0, none⟩) 3 3) [x, y, z].length (flat4 [x, y, z]) :=
    ⟨rfl, .inr ⟨w.heap.size, 3, _, rfl, Nat.zero_le _, hr, Nat.le_refl _, by decide, rfl, rfl⟩⟩
  exact pol_of_own op 0 0 ho (((PolsAt.one (ha.below hbl)).snoc (hb.below hbl)).snoc (hc.below hbl)) (fun _ _ _ => trivial) fun _ _ => trivial
set_option maxRecDepth 100000 in
set_option maxHeartbeats 1000000 in
theorem sumF (sa : Option Addr) (n c : Nat) (w : World) : Calls Try.prog 19 #[.slice sa n c] w fun e w' => e = .returned (nv ⟨7, 0, 0, .slice sa n c⟩) ∧ Below w.heap.size w w' := by
  obtain ⟨g0, g1, g2, g3⟩ := row4 (heap_alloc_new w (pobj ⟨7, 0, 0, .slice sa n c⟩))
  go_enter Try.func19, Try.ntmps19
  go_wp2
  refine bodyPost_ret (v := nv ⟨7, 0, 0, .slice sa n c⟩) ?_ rfl ⟨rfl, (Below.refl _ w).alloc (Nat.le_refl _) _⟩
  simp [results, Try.results19, go_sem, g0, g1, g2, g3]
set_option maxRecDepth 100000 in
set_option maxHeartbeats 1000000 in
theorem seqF (sa : Option Addr) (n c : Nat) (w : World) : Calls Try.prog 20 #[.slice sa n c] w fun e w' => e = .returned (nv ⟨6, 0, 0, .slice sa n c⟩) ∧ Below w.heap.size w w' := by
  obtain ⟨g0, g1, g2, g3⟩ := row4 (heap_alloc_new w (pobj ⟨6, 0, 0, .slice sa n c⟩))
  go_enter Try.func20, Try.ntmps20
  go_wp2
  refine bodyPost_ret (v := nv ⟨6, 0, 0, .slice sa n c⟩) ?_ rfl ⟨rfl, (Below.refl _ w).alloc (Nat.le_refl _) _⟩
  simp [results, Try.results20, go_sem, g0, g1, g2, g3]
set_option maxRecDepth 100000 in
set_option maxHeartbeats 1000000 in
theorem notF (T : Pl) (x : Nd) (w : World) (hp : PolAt All w T x) : Calls Try.prog 22 #[nv x] w fun e w' => ∃ g, e = .returned (nv ⟨4, 0, 0, .slice (some ⟨g, 0, none⟩) 1 1⟩) ∧ PolAt All w' (notP T) ⟨4, 0, 0, .slice (some ⟨g, 0, none⟩) 1 1⟩ ∧ Below w.heap.size w w' := by
  obtain ⟨-, -, -, sa, sc, hkv⟩ := hp.shape
  obtain ⟨xo, xf, xn, xk⟩ := x
  dsimp only at hkv
  subst hkv
  generalize T.kids.length = kn at *
  have hb0 : Below w.heap.size w ((w.alloc (pobj ⟨xo, xf, xn, .slice sa kn sc⟩)).alloc (pobj ⟨4, 0, 0, .slice (some ⟨w.heap.size + 1 + 1, 0, none⟩) 1 1⟩)) := ((Below.refl _ w).alloc (Nat.le_refl _) _).alloc (by simp) _
  have hb1 := hb0.alloc hb0.size (pobj ⟨xo, xf, xn, .slice sa kn sc⟩)
  have hr1 : (((w.alloc (pobj ⟨xo, xf, xn, .slice sa kn sc⟩)).alloc (pobj ⟨4, 0, 0, .slice (some ⟨w.heap.size + 1 + 1, 0, none⟩) 1 1⟩)).alloc (pobj ⟨xo, xf, xn, .slice sa kn sc⟩)).heap[w.heap.size + 1]? = some (pobj ⟨4, 0, 0, .slice (some ⟨w.heap.size + 1 + 1, 0, none⟩) 1 1⟩) := (Below.heap_alloc _ _ _ (by simp)).trans (heap_alloc2_new w _ _)
  have hr2 : (((w.alloc (pobj ⟨xo, xf, xn, .slice sa kn sc⟩)).alloc (pobj ⟨4, 0, 0, .slice (some ⟨w.heap.size + 1 + 1, 0, none⟩) 1 1⟩)).alloc (pobj ⟨xo, xf, xn, .slice sa kn sc⟩)).heap[w.heap.size + 1 + 1]? = some (pobj ⟨xo, xf, xn, .slice sa kn sc⟩) := heap_alloc3_new w _ _ _
  have hr0 : ((w.alloc (pobj ⟨xo, xf, xn, .slice sa kn sc⟩)).alloc nobj).heap[w.heap.size]? = some (pobj ⟨xo, xf, xn, .slice sa kn sc⟩) := (Below.heap_alloc _ _ _ (by simp)).trans (heap_alloc_new w _)
  have HE : Hid (PolAt All (((w.alloc (pobj ⟨xo, xf, xn, .slice sa kn sc⟩)).alloc (pobj ⟨4, 0, 0, .slice (some ⟨w.heap.size + 1 + 1, 0, none⟩) 1 1⟩)).alloc (pobj ⟨xo, xf, xn, .slice sa kn sc⟩)) (notP T) ⟨4, 0, 0, .slice (some ⟨w.heap.size + 1 + 1, 0, none⟩) 1 1⟩ ∧ Below w.heap.size w (((w.alloc (pobj ⟨xo, xf, xn, .slice sa kn sc⟩)).alloc (pobj ⟨4, 0, 0, .slice (some ⟨w.heap.size + 1 + 1, 0, none⟩) 1 1⟩)).alloc (pobj ⟨xo, xf, xn, .slice sa kn sc⟩))) := by
    refine ⟨?_, hb1⟩
    exact pol_of_own (lo := 0) (xs := [⟨xo, xf, xn, .slice sa kn sc⟩]) 4 0 0 ⟨rfl, .inr ⟨w.heap.size + 1 + 1, 1, _, rfl, Nat.zero_le _, hr2, Nat.le_refl _, by decide, rfl, rfl⟩⟩ (PolsAt.one (hp.below hb1)) (fun _ _ _ => trivial) fun _ _ => trivial
  obtain ⟨q0, q1, q2, q3⟩ := row4 hr0
  obtain ⟨g0, g1, g2, g3⟩ := row4 hr1
  clear hp hb0 hb1 hr0 hr1 hr2
  go_enter Try.func22, Try.ntmps22
  go_wp2
  refine bodyPost_ret (v := nv ⟨4, 0, 0, .slice (some ⟨w.heap.size + 1 + 1, 0, none⟩) 1 1⟩) ?_ rfl ⟨_, rfl, HE.out.1, HE.out.2⟩
  simp [results, Try.results22, go_sem, g0, g1, g2, g3]

/-- Policies behind a slice, as Sum takes them. -/
abbrev Lots (w : World) (v : Value) (ps : List Pl) : Prop := PolAt All w (.mk 7 0 0 ps) ⟨7, 0, 0, v⟩
/-- What alike asks of a policy ahead of its answer. -/
structure FitA (st : List Nat) (T : Pl) : Prop where
  size : sizeP T ≤ 1000
  ok : okN T
  form : okT T = true
  works : Works st T
/-- Those that follow on one another agree. -/
def Chain (st : List Nat) (q : P8) (ps : List Pl) : Prop := ∀ k (h : k + 1 < ps.length), Agree st q (ps[k]'(by omega)) ps[k + 1]

set_option maxRecDepth 100000 in
set_option maxHeartbeats 8000000 in
theorem alike_any (st : List Nat) (sv : Value) (hm63 : st.length ≤ 9223372036854775807) (q : P8) (hq : Q8 q) (ps : List Pl) (v : Value) (w : World) (hst : StAt w sv st) (hv : Lots w v ps) (hl : ps.length ≤ 100) (hf : ∀ p ∈ ps, FitA st p) (hc : Chain st q ps) :
    Calls Try.prog 18 #[sv, q.v, v] w fun e w' => e = .returned (.bool true) ∧ Below w.heap.size w w' := by
  have hb0 : Below w.heap.size w (w.alloc (pobj8 q)) := (Below.refl _ w).alloc (Nat.le_refl _) _
  obtain ⟨va, vc, e, hk⟩ := hv.open
  simp only [Nd.mk.injEq, true_and] at e
  subst e
  have HK : Hid _ := hk
  have HST : Hid (StAt w sv st) := hst
  have HF : Hid _ := hf
  have HC : Hid (Chain st q ps) := hc
  have HQ : Hid (Q8 q) := hq
  have HM63 : Hid _ := hm63
  have HB0 : Hid (Below w.heap.size w (w.alloc (pobj8 q))) := hb0
  have HX0 : Hid ((w.alloc (pobj8 q)).heap[w.heap.size]? = some (pobj8 q)) := heap_alloc_new w _
  obtain ⟨ss, ssc, rfl, -⟩ := hst
  obtain ⟨SL, eSL⟩ : ∃ SL, st.length = SL := ⟨_, rfl⟩
  rw [eSL] at HST ⊢
  obtain ⟨R, eR⟩ : ∃ R, ps.length = R := ⟨_, rfl⟩
  have HER : Hid (ps.length = R) := eR
  rw [eR] at hl ⊢
  clear hb0 hk hf hc hq hv hm63 eR
  go_enter Try.func18, Try.ntmps18
  go_wp2_with fail
  go_loopw [7, 14] (fun wv i wr => ∃ (k : Nat), k ≤ R ∧ i = .int .i64 (k : Int) ∧ Hid (Below w.heap.size w wr) ∧ Hid (wr.heap[w.heap.size]? = some (pobj8 q)) ∧ Hid (∀ h : k - 1 < ps.length, 0 < k → ∃ l, mkP st ps[k - 1] q = some l ∧ Pv wr wv l)) (fun _ i _ => R - (intOf i).toNat)
  case atStart => exact ⟨0, Nat.zero_le _, rfl, HB0, HX0, fun h h0 => by omega⟩
  case round =>
    clear HB0 HX0
    obtain ⟨k, hkl, rfl, HB, HX, HW⟩ := hrel
    by_cases hlt : k < R
    · have hlt' : k < ps.length := by rw [HER.out]; exact hlt
      obtain ⟨b, off, sa2, n2, sc2, y0, y1, y2, rfl, hb, ha, hp⟩ := HK.out k hlt'
      obtain ⟨a0, a1, a2, a3⟩ := ha.same (HB.out.block b hb)
      have hwr := HB.out.size
      have hfk := HF.out _ (List.getElem_mem hlt')
      have HW2 : Hid _ := HW.out
      obtain ⟨WA, hWA⟩ : ∃ WA, WA = wr.alloc (pobj ⟨y0, y1, y2, .slice sa2 n2 sc2⟩) := ⟨_, rfl⟩
      have hba : Below wr.heap.size wr WA := by rw [hWA]; exact (Below.refl _ _).alloc (Nat.le_refl _) _
      have HBA : Hid (Below w.heap.size w WA) := HB.out.trans (hba.mono hwr)
      have HXA : Hid (WA.heap[w.heap.size]? = some (pobj8 q)) := (hba.block _ (heap_lt HX.out)).trans HX.out
      have hcell : WA.heap[wr.heap.size]? = some (pobj ⟨y0, y1, y2, .slice sa2 n2 sc2⟩) := by rw [hWA]; exact heap_alloc_new _ _
      have cM := make_any (P := All) st (.slice ss SL ssc) HM63.out ps[k] ⟨y0, y1, y2, .slice sa2 n2 sc2⟩ q WA hfk.size hfk.ok HQ.out (hp.below HBA.out) (HST.out.below HBA.out) (fun _ => hfk.works)
      have HPrev : Hid (∀ h0 : 0 < k, ∃ l, mkP st (ps[k - 1]'(by omega)) q = some l ∧ Pv WA u7 l) := fun h0 => by
        obtain ⟨l, h1, h2⟩ := HW.out (by omega) h0
        exact ⟨l, h1, h2.below hba⟩
      have HAg : Hid (∀ h0 : 0 < k, Agree st q (ps[k - 1]'(by omega)) ps[k]) := fun h0 => by
        have := HC.out (k - 1) (by omega)
        have e : k - 1 + 1 = k := by omega
        simp only [e] at this
        exact this
      obtain ⟨q0, q1, q2, q3⟩ := row4 hcell
      obtain ⟨⟨c0, c1, c2, c3, c4, c5, c6, c7⟩, -, -⟩ := row8 HXA.out
      have hform := hfk.form
      have HT : Hid (∀ h : k < ps.length, ps[k] = ps[k]) := fun _ => rfl
      obtain ⟨T, hT⟩ : ∃ T, ps[k] = T := ⟨_, rfl⟩
      have HTe : Hid (ps[k] = T) := hT
      rw [hT] at cM hform HAg
      clear hp ha hfk hba hcell hT
      subst hWA
      go_wp2_with fail
      refine cM.mono ?_
      rintro e w1 ⟨v1, z, rfl, hb1, hr⟩
      have HB1 : Hid (Below w.heap.size w w1) := HBA.out.trans (hb1.mono HBA.out.size)
      have HX1 : Hid (w1.heap[w.heap.size]? = some (pobj8 q)) := (hb1.block _ (heap_lt HXA.out)).trans HXA.out
      have HR : Hid ((z = 24 ∧ mkP st T q = none ∧ v1 = .slice none 0 0) ∨ (z = 0 ∧ ∃ l, mkP st T q = some l ∧ Pv w1 v1 l)) := by
        rcases hr with ⟨h1, -, -⟩ | ⟨-, h2, h3, h4⟩ | ⟨-, l, h2, h3, h4⟩
        · rw [hform] at h1; cases h1
        · exact .inl ⟨h3, h2, h4⟩
        · exact .inr ⟨h3, l, h2, h4⟩
      have HPrev1 : Hid (∀ h0 : 0 < k, ∃ l, mkP st (ps[k - 1]'(by omega)) q = some l ∧ Pv w1 u7 l) := fun h0 => by
        obtain ⟨l, h1, h2⟩ := HPrev.out h0
        exact ⟨l, h1, h2.below hb1⟩
      clear hb1 hr cM HPrev HBA HXA q0 q1 q2 q3 c0 c1 c2 c3 c4 c5 c6 c7 a0 a1 a2 a3
      rcases HR.out with ⟨rfl, h2, rfl⟩ | ⟨rfl, l, h2, hv1⟩
      · clear h2 HR
        go_wp2
        go_ret
        exact ⟨rfl, HB1.out⟩
      · obtain ⟨xa, xc, rfl, -⟩ := hv1.shape
        have HV1 : Hid (Pv w1 (.slice xa l.length xc) l) := hv1
        have H2 : Hid (mkP st T q = some l) := h2
        have hll := mkP_len st T q l h2
        clear hv1 h2 HR
        by_cases hk0 : 0 < k
        · have d0 : decide (0 < (k : Int)) = true := by simp; omega
          obtain ⟨l', h3, hv7⟩ := HPrev1.out hk0
          obtain rfl : l' = l := HAg.out hk0 l' l h3 H2.out
          obtain ⟨ya, yc, rfl, -⟩ := hv7.shape
          have cSm := same25 (.slice xa l'.length xc) (.slice ya l'.length yc) l' (by omega) w1 HV1.out.pks hv7.pks
          clear h3 hv7
          go_wp2_with fail
          refine cSm.mono ?_
          rintro e w2 ⟨rfl, hb2⟩
          have HB2 : Hid (Below w.heap.size w w2) := HB1.out.trans (hb2.mono HB1.out.size)
          have HX2 : Hid (w2.heap[w.heap.size]? = some (pobj8 q)) := (hb2.block _ (heap_lt HX1.out)).trans HX1.out
          have HW3 : Hid (∀ h : k + 1 - 1 < ps.length, 0 < k + 1 → ∃ l, mkP st ps[k + 1 - 1] q = some l ∧ Pv w2 (.slice xa l'.length xc) l) := fun h _ => by
            have e : k + 1 - 1 = k := by omega
            simp only [e, HTe.out]
            exact ⟨l', H2.out, HV1.out.below hb2⟩
          clear hb2 cSm HV1 HB1 HX1 HPrev1 HAg
          go_wp2
          go_roundw
          case rel => exact ⟨k + 1, by omega, by go_num, HB2, HX2, HW3⟩
          case measure => simp [intOf]; omega
        · have d0 : decide (0 < (k : Int)) = false := by simp; omega
          have HW3 : Hid (∀ h : k + 1 - 1 < ps.length, 0 < k + 1 → ∃ l2, mkP st ps[k + 1 - 1] q = some l2 ∧ Pv w1 (.slice xa l.length xc) l2) := fun h _ => by
            have e : k + 1 - 1 = k := by omega
            simp only [e, HTe.out]
            exact ⟨l, H2.out, HV1.out⟩
          clear HV1 HPrev1 HAg
          generalize l.length = ll at *
          go_wp2
          go_roundw
          case rel => exact ⟨k + 1, by omega, by go_num, HB1, HX1, HW3⟩
          case measure => simp [intOf]; omega
    · obtain rfl : k = R := by omega
      go_wp2
      go_ret
      exact ⟨rfl, HB.out⟩
end Go.Proofs.Ytipiepcbgjceaaa
/- What fits and awake of the law answer. -/
set_option linter.unusedVariables false
set_option linter.unusedSimpArgs false
namespace Go.Proofs.Ytipiepcbgjceaaa
open Go.RowKit Go.Joins Go.Sort

def fitB (p : Pl) : Bool := okT p && (decide (sizeP p ≤ 40) && decide (depthP p ≤ 12))
theorem all_fits (ps : List Pl) (k : Nat) (h : k < ps.length) (hf : fitB ps[k] = false) : ps.all fitB = false := by
  rw [List.all_eq_false]
  exact ⟨ps[k], List.getElem_mem h, by rw [hf]; decide⟩
theorem take_fits (ps : List Pl) (k : Nat) (h : k < ps.length) (ht : (ps.take k).all fitB = true) (hf : fitB ps[k] = true) : (ps.take (k + 1)).all fitB = true := by
  rw [List.take_succ_eq_append_getElem h, List.all_append, ht]
  simp [hf]

set_option maxRecDepth 100000 in
set_option maxHeartbeats 8000000 in
theorem fits_any (ps : List Pl) (v : Value) (w : World) (hv : Lots w v ps) (hl : ps.length ≤ 100) (hs : ∀ p ∈ ps, sizeP p ≤ 1000) :
    Calls Try.prog 17 #[v] w fun e w' => e = .returned (.bool (ps.all fitB)) ∧ Below w.heap.size w w' := by
  obtain ⟨va, vc, e, hk⟩ := hv.open
  simp only [Nd.mk.injEq, true_and] at e
  subst e
  have HK : Hid _ := hk
  have HS : Hid _ := hs
  obtain ⟨R, eR⟩ : ∃ R, ps.length = R := ⟨_, rfl⟩
  have HER : Hid (ps.length = R) := eR
  rw [eR] at hl ⊢
  clear hk hs hv eR
  go_enter Try.func17, Try.ntmps17
  go_wp2_with fail
  go_loopw [7] (fun i wr => ∃ (k : Nat), k ≤ R ∧ i = .int .i64 (k : Int) ∧ Hid (Below w.heap.size w wr) ∧ Hid ((ps.take k).all fitB = true)) (fun i _ => R - (intOf i).toNat)
  case atStart => exact ⟨0, Nat.zero_le _, rfl, Below.refl _ _, by show _ = _; simp⟩
  case round =>
    obtain ⟨k, hkl, rfl, HB, HT⟩ := hrel
    by_cases hlt : k < R
    · have hlt' : k < ps.length := by rw [HER.out]; exact hlt
      obtain ⟨b, off, sa2, n2, sc2, y0, y1, y2, rfl, hb, ha, hp⟩ := HK.out k hlt'
      obtain ⟨a0, a1, a2, a3⟩ := ha.same (HB.out.block b hb)
      have hwr := HB.out.size
      have hsk := HS.out _ (List.getElem_mem hlt')
      obtain ⟨WA, hWA⟩ : ∃ WA, WA = wr.alloc (pobj ⟨y0, y1, y2, .slice sa2 n2 sc2⟩) := ⟨_, rfl⟩
      have hba : Below wr.heap.size wr WA := by rw [hWA]; exact (Below.refl _ _).alloc (Nat.le_refl _) _
      have HBA : Hid (Below w.heap.size w WA) := HB.out.trans (hba.mono hwr)
      have hcell : WA.heap[wr.heap.size]? = some (pobj ⟨y0, y1, y2, .slice sa2 n2 sc2⟩) := by rw [hWA]; exact heap_alloc_new _ _
      have HCe : Hid _ := hcell
      have HPk : Hid (∀ W, Below w.heap.size w W → PolAt All W ps[k] ⟨y0, y1, y2, .slice sa2 n2 sc2⟩) := fun W hW => hp.below hW
      have HNext : Hid (fitB ps[k] = true → (ps.take (k + 1)).all fitB = true) := take_fits ps k hlt' HT.out
      have HNot : Hid (fitB ps[k] = false → ps.all fitB = false) := all_fits ps k hlt'
      clear hp ha hba
      generalize ps[k] = T at *
      have cR := right_any (P := All) T ⟨y0, y1, y2, .slice sa2 n2 sc2⟩ WA hsk (HPk.out WA HBA.out)
      obtain ⟨q0, q1, q2, q3⟩ := row4 hcell
      unfold fitB at HNext HNot
      subst hWA
      cases hok : okT T with
      | false =>
        rw [hok] at cR
        have HE : Hid (ps.all fitB = false) := HNot.out (by rw [hok]; rfl)
        clear HNext HNot hok
        go_wp2_with fail
        refine cR.mono ?_
        rintro e w1 ⟨rfl, hb1⟩
        have HB1 : Hid (Below w.heap.size w w1) := HBA.out.trans (hb1.mono HBA.out.size)
        clear hb1 cR
        go_wp2
        go_ret
        exact ⟨by rw [HE.out]; rfl, HB1.out⟩
      | true =>
        rw [hok] at cR HNext HNot
        rw [Bool.true_and] at HNext HNot
        go_wp2_with fail
        refine cR.mono ?_
        rintro e w1 ⟨rfl, hb1⟩
        have HB1 : Hid (Below w.heap.size w w1) := HBA.out.trans (hb1.mono HBA.out.size)
        have hc1 := (hb1.block _ (heap_lt HCe.out)).trans HCe.out
        have HC1 : Hid _ := hc1
        have cS := rsize_any (P := All) 1000 T ⟨y0, y1, y2, .slice sa2 n2 sc2⟩ w1 hsk (by omega) (HPk.out w1 HB1.out)
        obtain ⟨r0, r1, r2, r3⟩ := row4 hc1
        clear hb1 cR hc1 q0 q1 q2 q3 HBA HCe hok hcell
        go_wp2_with fail
        refine cS.mono ?_
        rintro e w2 ⟨rfl, hb2⟩
        have HB2 : Hid (Below w.heap.size w w2) := HB1.out.trans (hb2.mono HB1.out.size)
        have hc2 := (hb2.block _ (heap_lt HC1.out)).trans HC1.out
        have cD := rdepth_any (P := All) 1000 T ⟨y0, y1, y2, .slice sa2 n2 sc2⟩ w2 hsk (by omega) (HPk.out w2 HB2.out)
        obtain ⟨s0, s1, s2, s3⟩ := row4 hc2
        clear hb2 cS hc2 r0 r1 r2 r3 HC1
        by_cases h40 : sizeP T ≤ 40
        · have d1 : decide (40 < (sizeP T : Int)) = false := by simp; omega
          have e1 : decide (sizeP T ≤ 40) = true := by simpa using h40
          rw [e1, Bool.true_and] at HNext HNot
          go_wp2_with fail
          refine cD.mono ?_
          rintro e w3 ⟨rfl, hb3⟩
          have HB3 : Hid (Below w.heap.size w w3) := HB2.out.trans (hb3.mono HB2.out.size)
          clear hb3 cD s0 s1 s2 s3 e1
          by_cases h12 : depthP T ≤ 12
          · have d2 : decide (12 < (depthP T : Int)) = false := by simp; omega
            have HE : Hid ((ps.take (k + 1)).all fitB = true) := HNext.out (by simpa using h12)
            clear HNext HNot h40 h12
            generalize sizeP T = z1 at *
            generalize depthP T = z2 at *
            go_wp2
            go_roundw
            case rel => exact ⟨k + 1, by omega, by go_num, HB3, HE⟩
            case measure => simp [intOf]; omega
          · have d2 : decide (12 < (depthP T : Int)) = true := by simp; omega
            have HE : Hid (ps.all fitB = false) := HNot.out (by simpa using h12)
            clear HNext HNot h40 h12
            generalize sizeP T = z1 at *
            generalize depthP T = z2 at *
            go_wp2
            go_ret
            exact ⟨by rw [HE.out]; rfl, HB3.out⟩
        · have d1 : decide (40 < (sizeP T : Int)) = true := by simp; omega
          have HE : Hid (ps.all fitB = false) := HNot.out (by rw [show decide (sizeP T ≤ 40) = false by simpa using h40]; rfl)
          clear HNext HNot h40 cD
          generalize sizeP T = z1 at *
          go_wp2
          go_ret
          exact ⟨by rw [HE.out]; rfl, HB2.out⟩
    · obtain rfl : k = R := by omega
      have HE : Hid (ps.all fitB = true) := by
        have := HT.out
        rwa [List.take_of_length_le (by rw [HER.out]; exact Nat.le_refl _)] at this
      go_wp2
      go_ret
      exact ⟨by rw [HE.out]; rfl, HB.out⟩
/-- The policy that awake asks. -/
def awP : Pl := seqP [sumP [.mk 5 1 1 [], .mk 5 1 2 []], .mk 3 0 5 []]
theorem aw_ok : okT awP = true := by kernel_rfl
theorem aw_five : mkP [5] awP ⟨9, 0, 0, 0, 0, 0, 0, 0⟩ = some [⟨9, 1, 0, 0, 0, 0, 0, 0⟩, ⟨9, 2, 0, 0, 0, 0, 0, 0⟩] := by kernel_rfl
theorem aw_six : mkP [6] awP ⟨9, 0, 0, 0, 0, 0, 0, 0⟩ = some [] := by kernel_rfl
theorem aw_lets : mkP [5] awP ⟨0, 0, 0, 0, 0, 0, 0, 0⟩ = some [⟨0, 1, 0, 0, 0, 0, 0, 0⟩, ⟨0, 2, 0, 0, 0, 0, 0, 0⟩] := by kernel_rfl
theorem aw_slim (st : List Nat) : Slim (atP st awP) := by
  intro S ⟨f, n, kids, e, hs⟩ q hq k hk L hL
  have hT : ∃ c, atP st awP = .mk 6 0 0 [.mk 7 0 0 [.mk 5 1 1 [], .mk 5 1 2 []], .mk c 0 0 []] := by
    refine ⟨if partIs st 0 5 = true then 1 else 0, ?_⟩
    unfold awP seqP sumP
    simp [atP_mk, atP.atL]
  obtain ⟨c, hT⟩ := hT
  rw [hT] at hs
  subst e
  simp only [Slim.Sub, Slim.subL, or_false, Pl.mk.injEq] at hs
  have hk6 : kids = [.mk 7 0 0 [.mk 5 1 1 [], .mk 5 1 2 []], .mk c 0 0 []] ∨ kids = [] := by
    rcases hs with h | (h | h | h) | h
    · exact .inl h.2.2.2
    · exact absurd h.1 (by decide)
    · exact absurd h.1 (by decide)
    · exact absurd h.1 (by decide)
    · exact .inr h.2.2.2
  rcases hk6 with rfl | rfl
  · match k, hk, hL with
    | 0, _, hL =>
      left
      rw [List.take_zero, mkP.mkSeq] at hL
      injection hL with hL
      subst hL
      simp
    | 1, _, _ => right; rfl
  · exact absurd hk (by simp)
end Go.Proofs.Ytipiepcbgjceaaa
/- What awake of the law answers: true. -/
set_option linter.unusedVariables false
set_option linter.unusedSimpArgs false
namespace Go.Proofs.Ytipiepcbgjceaaa
open Go.RowKit Go.Joins Go.Sort

theorem hide {p : Prop} (h : p) : Hid p := h
/-- A state of one part, in a row of one. -/
theorem st_one (w : World) (n : Nat) : StAt (w.alloc (.cells #[.int .u16 (n : Int)] 24)) (.slice (some ⟨w.heap.size, 0, none⟩) 1 1) [n] := by
  refine ⟨_, 1, rfl, fun k hk => ⟨w.heap.size, 0, rfl, by simp, ?_⟩⟩
  have : k = 0 := by simp at hk; omega
  subst this
  rw [cell_of_row _ _ _ _ _ _ (heap_alloc_new w _)]
  rfl
theorem q8_of (a0 a1 a2 a3 a4 a5 a6 a7 : Nat) (h : ∀ z ∈ [a0, a1, a2, a3, a4, a5, a6, a7], z ≤ 65535) : Q8 ⟨a0, a1, a2, a3, a4, a5, a6, a7⟩ := fun z hz => by
  simp only [P8.l, List.mem_cons, List.not_mem_nil, or_false] at hz
  simp only [List.mem_cons, List.not_mem_nil, or_false, forall_eq_or_imp, forall_eq] at h
  rcases hz with rfl | rfl | rfl | rfl | rfl | rfl | rfl | rfl <;> omega
theorem aw_okN : okN awP := by
  unfold awP seqP sumP
  simp [okN, okN.okL]
theorem aw_size : sizeP awP ≤ 1000 := by
  unfold awP seqP sumP
  simp [sizeP, sizeP.sizeL]

/-- Make of that policy, in a state of one part. -/
theorem aw_make (n : Nat) (q : P8) (hq : Q8 q) (l : List P8) (hl : mkP [n] awP q = some l) (x : Nd) (W : World) (hp : PolAt All W awP x) :
    Calls Try.prog 9 #[nv x, .slice (some ⟨W.heap.size, 0, none⟩) 1 1, q.v] (W.alloc (.cells #[.int .u16 (n : Int)] 24)) fun e w' => ∃ v, e = .returned (.tuple #[v, .int .i64 0]) ∧ Below (W.alloc (.cells #[.int .u16 (n : Int)] 24)).heap.size (W.alloc (.cells #[.int .u16 (n : Int)] 24)) w' ∧ Pv w' v l := by
  refine (make_any (P := All) [n] (.slice (some ⟨W.heap.size, 0, none⟩) 1 1) (by simp) awP x q (W.alloc (.cells #[.int .u16 (n : Int)] 24)) aw_size aw_okN hq (hp.below ((Below.refl _ W).alloc (Nat.le_refl _) _)) (st_one W n) (fun _ => .inl (aw_slim [n]))).mono ?_
  rintro e w' ⟨v, z, rfl, hb, h | h | h⟩
  · rw [aw_ok] at h; exact absurd h.1 (by decide)
  · rw [hl] at h; exact absurd h.2.1 (by simp)
  · obtain ⟨-, l', h1, rfl, h3⟩ := h
    rw [hl] at h1
    injection h1 with h1
    subst h1
    exact ⟨v, rfl, hb, h3⟩
theorem aw_let (q : P8) (hq : Q8 q) (a b : P8) (hl : mkP [5] awP q = some [a, b]) (x : Nd) (W : World) (hp : PolAt All W awP x) :
    Calls Try.prog 12 #[nv x, .slice (some ⟨W.heap.size, 0, none⟩) 1 1, q.v] (W.alloc (.cells #[.int .u16 ((5 : Nat) : Int)] 24)) fun e w' => e = .returned (.bool true) ∧ Below (W.alloc (.cells #[.int .u16 ((5 : Nat) : Int)] 24)).heap.size (W.alloc (.cells #[.int .u16 ((5 : Nat) : Int)] 24)) w' := by
  refine (letsP_any (P := All) [5] (.slice (some ⟨W.heap.size, 0, none⟩) 1 1) (by simp) awP x q (W.alloc (.cells #[.int .u16 ((5 : Nat) : Int)] 24)) aw_size aw_okN hq (hp.below ((Below.refl _ W).alloc (Nat.le_refl _) _)) (st_one W 5) (fun _ => .inl (aw_slim [5]))).mono ?_
  rintro e w' ⟨b', rfl, hb, hi⟩
  exact ⟨by rw [hi.2 ⟨aw_ok, _, hl, by simp⟩], hb⟩

set_option maxRecDepth 100000 in
set_option maxHeartbeats 8000000 in
theorem awake_any (w : World) : Calls Try.prog 7 #[] w fun e w' => e = .returned (.bool true) ∧ Below w.heap.size w w' := by
  have hp1 := lit2 (w := w) (a := .mk 5 1 1 []) (b := .mk 5 1 2 []) (x := ⟨5, 1, 1, .slice none 0 0⟩) (y := ⟨5, 1, 2, .slice none 0 0⟩) 7 (PolAt.leaf _ _ _ _ _) (PolAt.leaf _ _ _ _ _)
  have hb0 : Below w.heap.size w (w.alloc (.cells #[.int .i64 5, .int .i64 1, .int .u16 1, .slice none 0 0, .int .i64 5, .int .i64 1, .int .u16 2, .slice none 0 0] 30)) := (Below.refl _ w).alloc (Nat.le_refl _) _
  have HP1 := hide hp1
  have HB0 := hide hb0
  clear hp1 hb0
  go_enter Try.func7, Try.ntmps7
  go_wp2_with fail
  refine (sumF _ _ _ _).mono ?_
  rintro e w1 ⟨rfl, hb1⟩
  have hp2 := lit2 (w := w1) (b := .mk 3 0 5 []) (y := ⟨3, 0, 5, .slice none 0 0⟩) 6 (HP1.out.below hb1) (PolAt.leaf _ _ _ _ _)
  have HP2 := hide hp2
  have HB1 : Hid (Below w.heap.size w w1) := HB0.out.trans (hb1.mono HB0.out.size)
  clear hb1 hp2 HP1 HB0
  go_wp2_with fail
  refine (seqF _ _ _ _).mono ?_
  rintro e w2 ⟨rfl, hb2⟩
  have hp3 : PolAt All w2 awP ⟨6, 0, 0, .slice (some ⟨w1.heap.size, 0, none⟩) 2 2⟩ := HP2.out.below hb2
  have HB2 : Hid (Below w.heap.size w w2) := (HB1.out.alloc HB1.out.size _).trans (hb2.mono (HB1.out.alloc HB1.out.size _).size)
  have HP3 := hide hp3
  clear hb2 hp3 HP2 HB1
  generalize w1.heap.size = g1 at *
  have hbA : Below w2.heap.size w2 (w2.alloc (pobj ⟨6, 0, 0, .slice (some ⟨g1, 0, none⟩) 2 2⟩)) := (Below.refl _ _).alloc (Nat.le_refl _) _
  have hsA : (w2.alloc (pobj ⟨6, 0, 0, .slice (some ⟨g1, 0, none⟩) 2 2⟩)).heap.size = w2.heap.size + 1 := by simp
  have cM := aw_make 5 ⟨9, 0, 0, 0, 0, 0, 0, 0⟩ (q8_of 9 0 0 0 0 0 0 0 (by decide)) _ aw_five _ _ (HP3.out.below hbA)
  rw [hsA] at cM
  have hrA : ((w2.alloc (pobj ⟨6, 0, 0, .slice (some ⟨g1, 0, none⟩) 2 2⟩)).alloc (.cells #[.int .u16 ((5 : Nat) : Int)] 24)).heap[w2.heap.size]? = some (pobj ⟨6, 0, 0, .slice (some ⟨g1, 0, none⟩) 2 2⟩) := (Below.heap_alloc _ _ _ (by simp)).trans (heap_alloc_new _ _)
  have HRA := hide hrA
  have HPA : Hid (PolAt All ((w2.alloc (pobj ⟨6, 0, 0, .slice (some ⟨g1, 0, none⟩) 2 2⟩)).alloc (.cells #[.int .u16 ((5 : Nat) : Int)] 24)) awP ⟨6, 0, 0, .slice (some ⟨g1, 0, none⟩) 2 2⟩) := (HP3.out.below hbA).below ((Below.refl _ _).alloc (Nat.le_refl _) _)
  have HBA : Hid (Below w.heap.size w ((w2.alloc (pobj ⟨6, 0, 0, .slice (some ⟨g1, 0, none⟩) 2 2⟩)).alloc (.cells #[.int .u16 ((5 : Nat) : Int)] 24))) := (HB2.out.alloc HB2.out.size _).alloc (by have := HB2.out.size; simp; omega) _
  clear hbA hsA hrA HP3 HB2
  go_wp2_with fail
  refine cM.mono ?_
  rintro e w3 ⟨v3, rfl, hb3, hv3⟩
  have hr3 := (hb3.block _ (heap_lt HRA.out)).trans HRA.out
  have HP4 : Hid (PolAt All w3 awP ⟨6, 0, 0, .slice (some ⟨g1, 0, none⟩) 2 2⟩) := HPA.out.below hb3
  have HB3 : Hid (Below w.heap.size w w3) := HBA.out.trans (hb3.mono HBA.out.size)
  have HR3 := hide hr3
  have HV3 := hide hv3
  have cM2 := aw_make 6 ⟨9, 0, 0, 0, 0, 0, 0, 0⟩ (q8_of 9 0 0 0 0 0 0 0 (by decide)) _ aw_six _ w3 HP4.out
  obtain ⟨q0, q1, q2, q3⟩ := row4 hr3
  generalize w2.heap.size = g2 at *
  clear hb3 hv3 hr3 HPA HBA HRA cM
  go_wp2_with fail
  refine cM2.mono ?_
  rintro e w4 ⟨v4, rfl, hb4, hv4⟩
  have hbb : Below w3.heap.size w3 w4 := ((Below.refl _ w3).alloc (Nat.le_refl _) _).trans (hb4.mono (by simp))
  have hr4 := (hbb.block _ (heap_lt HR3.out)).trans HR3.out
  have HP5 : Hid (PolAt All w4 awP ⟨6, 0, 0, .slice (some ⟨g1, 0, none⟩) 2 2⟩) := HP4.out.below hbb
  have HB4 : Hid (Below w.heap.size w w4) := HB3.out.trans (hbb.mono HB3.out.size)
  have hv34 := HV3.out.below hbb
  obtain rfl : v4 = .slice none 0 0 := by
    rcases hv4 with ⟨-, h⟩ | ⟨h, -⟩
    · exact h
    · exact absurd rfl h
  obtain ⟨a3, c3, rfl, h3⟩ := hv34.shape
  obtain ⟨b3, off3, rfl, -, -, hat3⟩ := h3 1 (by decide)
  obtain ⟨z0, z1, z2, z3, z4, z5, z6, z7⟩ := hat3
  simp only [List.getElem_cons_succ, List.getElem_cons_zero, Nat.one_mul] at z0 z1 z2 z3 z4 z5 z6 z7
  have eqq := eqlP ⟨9, 2, 0, 0, 0, 0, 0, 0⟩
  unfold P8.v at eqq
  dsimp only at eqq
  obtain ⟨r0, r1, r2, r3⟩ := row4 hr4
  have cL := aw_let ⟨0, 0, 0, 0, 0, 0, 0, 0⟩ (q8_of 0 0 0 0 0 0 0 0 (by decide)) _ _ aw_lets _ w4 HP5.out
  clear hb4 hv4 hbb hr4 hv34 h3 HV3 HR3 HP4 HB3 cM2 q0 q1 q2 q3
  go_wp2_with fail
  refine cL.mono ?_
  rintro e w5 ⟨rfl, hb5⟩
  have HB5 : Hid (Below w.heap.size w w5) := HB4.out.trans (((Below.refl _ w4).alloc (Nat.le_refl _) _).trans (hb5.mono (by simp)) |>.mono HB4.out.size)
  clear hb5 cL
  go_wp2
  go_ret
  exact ⟨rfl, HB5.out⟩
end Go.Proofs.Ytipiepcbgjceaaa
