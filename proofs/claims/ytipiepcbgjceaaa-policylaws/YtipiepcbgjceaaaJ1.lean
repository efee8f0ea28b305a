/- What policy.At, isFormed and the document's Right answer. -/
import Derived.Test.YtipiepcbgjceaaaG3
import Derived.Test.YtipiepcbgjceaaaR4
set_option linter.unusedVariables false
set_option linter.unusedSimpArgs false
namespace Go.Proofs.Ytipiepcbgjceaaa
open Go.RowKit Go.Joins

/-- Well formed, with as many parts as there may be. -/
def okT (T : Pl) : Bool := decide (checkM ⟨[0, 0, 0, 0], T, []⟩ = 0)
theorem okT_iff (T : Pl) : okT T = true ↔ sizeP T ≤ 300 ∧ depthP T ≤ 20 ∧ formP 4 T = true := by
  unfold okT checkM longB
  simp only [decide_eq_true_eq, List.length_cons, List.length_nil, List.all_nil, Bool.and_true]
  by_cases h1 : 300 < sizeP T
  · simp [h1]; omega
  · by_cases h2 : 20 < depthP T
    · simp [h1, h2]; omega
    · cases h3 : formP 4 T with
      | true => simp [h1, h2, h3]; omega
      | false => simp [h1, h2, h3]

set_option maxRecDepth 100000 in
set_option maxHeartbeats 4000000 in
theorem atT_any {P : Nat → Prop} (st : List Nat) (sv : Value) (hm63 : st.length ≤ 9223372036854775807) (T : Pl) (x : Nd) (w : World) (hs : sizeP T ≤ 1000) (hp : PolAt P w T x) (hst : StAt w sv st) :
    Calls Try.prog 13 #[nv x, sv] w fun e w' => ∃ y, e = .returned (nv y) ∧ PolAt (fun b => w.heap.size ≤ b) w' (atP st T) y ∧ Below w.heap.size w w' := by
  have hb0 : Below w.heap.size w ((w.alloc (pobj x)).alloc nobj) := ((Below.refl _ w).alloc (Nat.le_refl _) _).alloc (by simp) _
  have cR := proom_any 1000 T x 44739242 65536 ((w.alloc (pobj x)).alloc nobj) hs (by omega) (by omega) (by omega) (by omega) (by omega) (hp.below hb0)
  have hroom : 0 ≤ roomP T 44739242 65536 := by
    have h := (room_is T 44739242 65536 (by omega) (by omega)).1
    have := depth_le T
    rw [h ⟨by omega, by omega⟩]
    omega
  have HP : Hid (PolAt P w T x) := hp
  have HST : Hid (StAt w sv st) := hst
  have HB0 : Hid (Below w.heap.size w ((w.alloc (pobj x)).alloc nobj)) := hb0
  have hr0 : Hid (((w.alloc (pobj x)).alloc nobj).heap[w.heap.size + 1]? = some nobj) := heap_alloc2_new w _ _
  have hr1 : Hid (((w.alloc (pobj x)).alloc nobj).heap[w.heap.size]? = some (pobj x)) := (Below.heap_alloc _ _ _ (by simp)).trans (heap_alloc_new w _)
  obtain ⟨ss, ssc, rfl, -⟩ := hst
  obtain ⟨-, -, -, sa, sc, hkv⟩ := hp.shape
  obtain ⟨xo, xf, xn, xk⟩ := x
  dsimp only at hkv
  subst hkv
  obtain ⟨KL, eKL⟩ : ∃ KL, T.kids.length = KL := ⟨_, rfl⟩
  rw [eKL] at cR HP HB0 hr0 hr1 ⊢
  obtain ⟨SL, eSL⟩ : ∃ SL, st.length = SL := ⟨_, rfl⟩
  have HES : Hid (st.length = SL) := eSL
  rw [eSL] at HST ⊢
  generalize roomP T 44739242 65536 = z at *
  have dz : decide (z < 0) = false := by simpa using hroom
  clear hp hb0 eKL eSL hroom
  go_enter Try.func13, Try.ntmps13
  go_wp2_with fail
  refine cR.mono ?_
  rintro e w1 ⟨rfl, hb1⟩
  have hq0 := (hb1.block _ (heap_lt hr0.out)).trans hr0.out
  have hq1 := (hb1.block _ (heap_lt hr1.out)).trans hr1.out
  have HB1 : Hid (Below w.heap.size w w1) := HB0.out.trans (hb1.mono HB0.out.size)
  have cA := at_any (P := P) st (.slice ss SL ssc) hm63 1000 T _ w1 hs (by omega) (HP.out.below HB1.out) (HST.out.below HB1.out)
  obtain ⟨r0, r1, r2, r3⟩ := row4 hq1
  have HQ0 : Hid _ := hq0
  clear hb1 hq0 hq1 cR
  go_wp2_with fail
  refine cA.mono ?_
  rintro e w2 ⟨y, rfl, hpy, hb2⟩
  obtain ⟨-, -, -, yb, yd, hyv⟩ := hpy.shape
  obtain ⟨yo, yf, yn, yk⟩ := y
  dsimp only at hyv
  subst hyv
  generalize (atP st T).kids.length = kn at hpy ⊢
  have HB2 : Hid (Below w.heap.size w w2) := HB1.out.trans (hb2.mono HB1.out.size)
  have hq2 := (hb2.block _ (heap_lt HQ0.out)).trans HQ0.out
  obtain ⟨f0, f1, f2, f3⟩ := frz4 hq2
  obtain ⟨q0, q1, q2, q3⟩ := row4 hq2
  have hres := set4 (.int .i64 yo) (.int .i64 yf) (.int .u16 yn) (.slice yb kn yd) hq2
  obtain ⟨g0, g1, g2, g3⟩ := row4 hres
  have hlt1 : w.heap.size + 1 < w1.heap.size := heap_lt HQ0.out
  have HE : Hid (PolAt (fun b => w.heap.size ≤ b) ((((w2.setCell ⟨w.heap.size + 1, 0, none⟩ (.int .i64 yo)).setCell ⟨w.heap.size + 1, 1, none⟩ (.int .i64 yf)).setCell ⟨w.heap.size + 1, 2, none⟩ (.int .u16 yn)).setCell ⟨w.heap.size + 1, 3, none⟩ (.slice yb kn yd)) (atP st T) ⟨yo, yf, yn, .slice yb kn yd⟩ ∧ Below w.heap.size w ((((w2.setCell ⟨w.heap.size + 1, 0, none⟩ (.int .i64 yo)).setCell ⟨w.heap.size + 1, 1, none⟩ (.int .i64 yf)).setCell ⟨w.heap.size + 1, 2, none⟩ (.int .u16 yn)).setCell ⟨w.heap.size + 1, 3, none⟩ (.slice yb kn yd))) := by
    have hn : ¬ (w1.heap.size ≤ w.heap.size + 1) := by omega
    refine ⟨?_, ?_⟩
    · have := (((hpy.set (a := ⟨w.heap.size + 1, 0, none⟩) hn (.int .i64 yo)).set (a := ⟨w.heap.size + 1, 1, none⟩) hn (.int .i64 yf)).set (a := ⟨w.heap.size + 1, 2, none⟩) hn (.int .u16 yn)).set (a := ⟨w.heap.size + 1, 3, none⟩) hn (.slice yb kn yd)
      exact this.mono (Q := fun b => w.heap.size ≤ b) fun b (h : w1.heap.size ≤ b) _ => (show w.heap.size ≤ b by omega)
    · exact (((HB2.out.setCell (by show w.heap.size ≤ w.heap.size + 1; omega) _).setCell (by show w.heap.size ≤ w.heap.size + 1; omega) _).setCell (by show w.heap.size ≤ w.heap.size + 1; omega) _).setCell (by show w.heap.size ≤ w.heap.size + 1; omega) _
  clear hpy hb2 hq2 hres cA
  go_wp2
  refine bodyPost_ret (v := nv ⟨yo, yf, yn, .slice yb kn yd⟩) ?_ rfl ⟨_, rfl, HE.out.1, HE.out.2⟩
  simp [results, Try.results13, go_sem, g0, g1, g2, g3]

theorem info24u : (Try.prog.info? 24).map (fun i => (i.zero, i.size, i.bytes)) = some (some (.int .u16 0), 1, 2) := by kernel_rfl
abbrev o4 : Obj := .cells #[.int .u16 0, .int .u16 0, .int .u16 0, .int .u16 0] 24
theorem run_make4 (w : World) : (Instr.makeSlice 23 (.int .i64 4) (.int .i64 4)).run Try.prog w = .ok (.slice (some ⟨w.heap.size, 0, none⟩) 4 4) (w.alloc o4) := by
  obtain ⟨i0, hi, hz0, hz1, hz2⟩ := info_parts info24u
  have hmk := run_make (P := Try.prog) w 23 24 i0 (.int .u16 0) Try.underlying23 hi hz0 .i64 .i64 4 4 (by decide) (by decide) (by rw [hz2]; decide) (by decide)
  have e1 : madeCells (Value.int .u16 0).cells ((4 : Int).toNat * i0.size) = #[.int .u16 0, .int .u16 0, .int .u16 0, .int .u16 0] := by rw [hz1]; kernel_rfl
  rw [e1] at hmk
  exact hmk
theorem noRules (P : Nat → Prop) (w : World) : RulesAt P w (.slice none 0 0) [] := ⟨none, 0, rfl, fun k hk => by simp at hk⟩

set_option maxRecDepth 100000 in
set_option maxHeartbeats 4000000 in
theorem formedP_any {P : Nat → Prop} (T : Pl) (x : Nd) (w : World) (hs : sizeP T ≤ 1000) (hp : PolAt P w T x) :
    Calls Try.prog 23 #[nv x] w fun e w' => e = .returned (.bool (okT T)) ∧ Below w.heap.size w w' := by
  have hb0 : Below w.heap.size w (w.alloc (pobj x)) := (Below.refl _ w).alloc (Nat.le_refl _) (pobj x)
  have hbd : Below w.heap.size w (w.alloc (pobj x)).drew := below_drewN hb0 1
  have hsz : (w.alloc (pobj x)).drew.heap.size = w.heap.size + 1 := by simp [World.drew]
  have hmk := run_make4 (w.alloc (pobj x)).drew
  rw [hsz] at hmk
  have HB2 : Hid (Below w.heap.size w ((w.alloc (pobj x)).drew.alloc o4)) := hbd.alloc (by rw [hsz]; omega) _
  have HW2 : Hid (((w.alloc (pobj x)).drew.alloc o4).heap[w.heap.size]? = some (pobj x)) := (Below.heap_alloc _ _ _ (by rw [hsz]; omega)).trans (heap_alloc_new w _)
  have HWd : Hid ((w.alloc (pobj x)).drew.heap[w.heap.size]? = some (pobj x)) := heap_alloc_new w _
  have hsh : PgShort ⟨[0, 0, 0, 0], T, []⟩ := ⟨by simp, by show sizeP T ≤ 100000; omega, by simp, fun r hr => by cases hr⟩
  have cC := check_any (P := P) ⟨[0, 0, 0, 0], T, []⟩ (.slice (some ⟨w.heap.size + 1, 0, none⟩) 4 4) x (.slice none 0 0) hsh ((w.alloc (pobj x)).drew.alloc o4) ⟨⟨_, _, rfl⟩, hp.below HB2.out, noRules P _⟩
  obtain ⟨-, -, -, sk, skc, hkv⟩ := hp.shape
  obtain ⟨xo, xf, xn, xk⟩ := x
  dsimp only at hkv
  subst hkv
  generalize T.kids.length = kn at *
  clear hp hb0 hs hbd hsh hsz
  obtain ⟨q0, q1, q2, q3⟩ := row4 HWd.out
  obtain ⟨p0, p1, p2, p3⟩ := row4 HW2.out
  unfold okT
  generalize checkM ⟨[0, 0, 0, 0], T, []⟩ = cv at *
  have d0 : ((cv : Int) == 0) = decide (cv = 0) := by by_cases h : cv = 0 <;> simp [h]
  go_enter Try.func23, Try.ntmps23
  go_wp2_with fail
  go_region_with (go_at_call 32; refine cC.mono ?_; rintro e w2 ⟨rfl, hb2⟩; have HB3 : Hid (Below w.heap.size w w2) := HB2.out.trans (hb2.mono HB2.out.size); clear hb2)
  all_goals
    go_wp2
    go_ret
    exact ⟨rfl, HB3.out⟩

set_option maxRecDepth 100000 in
set_option maxHeartbeats 4000000 in
theorem right_any {P : Nat → Prop} (T : Pl) (x : Nd) (w : World) (hs : sizeP T ≤ 1000) (hp : PolAt P w T x) :
    Calls Try.prog 16 #[nv x] w fun e w' => e = .returned (.bool (okT T)) ∧ Below w.heap.size w w' := by
  have hb0 : Below w.heap.size w (w.alloc (pobj x)) := (Below.refl _ w).alloc (Nat.le_refl _) (pobj x)
  have hbd : Below w.heap.size w (w.alloc (pobj x)).drew := below_drewN hb0 1
  have hsz : (w.alloc (pobj x)).drew.heap.size = w.heap.size + 1 := by simp [World.drew]
  have hmk := run_make4 (w.alloc (pobj x)).drew
  rw [hsz] at hmk
  have HB2 : Hid (Below w.heap.size w ((w.alloc (pobj x)).drew.alloc o4)) := hbd.alloc (by rw [hsz]; omega) _
  have HW2 : Hid (((w.alloc (pobj x)).drew.alloc o4).heap[w.heap.size]? = some (pobj x)) := (Below.heap_alloc _ _ _ (by rw [hsz]; omega)).trans (heap_alloc_new w _)
  have HWd : Hid ((w.alloc (pobj x)).drew.heap[w.heap.size]? = some (pobj x)) := heap_alloc_new w _
  have hsh : PgShort ⟨[0, 0, 0, 0], T, []⟩ := ⟨by simp, by show sizeP T ≤ 100000; omega, by simp, fun r hr => by cases hr⟩
  have cC := rcheck_any (P := P) ⟨[0, 0, 0, 0], T, []⟩ (.slice (some ⟨w.heap.size + 1, 0, none⟩) 4 4) x (.slice none 0 0) hsh ((w.alloc (pobj x)).drew.alloc o4) ⟨⟨_, _, rfl⟩, hp.below HB2.out, noRules P _⟩
  obtain ⟨-, -, -, sk, skc, hkv⟩ := hp.shape
  obtain ⟨xo, xf, xn, xk⟩ := x
  dsimp only at hkv
  subst hkv
  generalize T.kids.length = kn at *
  clear hp hb0 hs hbd hsh hsz
  obtain ⟨q0, q1, q2, q3⟩ := row4 HWd.out
  obtain ⟨p0, p1, p2, p3⟩ := row4 HW2.out
  unfold okT
  generalize checkM ⟨[0, 0, 0, 0], T, []⟩ = cv at *
  have d0 : ((cv : Int) == 0) = decide (cv = 0) := by by_cases h : cv = 0 <;> simp [h]
  go_enter Try.func16, Try.ntmps16
  go_wp2_with fail
  go_region_with (go_at_call 29; refine cC.mono ?_; rintro e w2 ⟨rfl, hb2⟩; have HB3 : Hid (Below w.heap.size w w2) := HB2.out.trans (hb2.mono HB2.out.size); clear hb2)
  all_goals
    go_wp2
    go_ret
    exact ⟨rfl, HB3.out⟩
end Go.Proofs.Ytipiepcbgjceaaa
