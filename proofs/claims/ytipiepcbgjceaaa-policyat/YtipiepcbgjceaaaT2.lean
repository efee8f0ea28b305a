/- What the law PolicyAt answers: true; nothing is asked of the input but what an argument is. -/
import Derived.Test.YtipiepcbgjceaaaQE
import Derived.Test.YtipiepcbgjceaaaOZ
import Derived.Test.YtipiepcbgjceaaaT1
import Derived.Test.YtipiepcbgjceaaaU2
import Derived.Test.YtipiepcbgjceaaaRow
set_option linter.unusedVariables false
set_option linter.unusedSimpArgs false
namespace Go.Proofs.Ytipiepcbgjceaaa
open Go.RowKit Go.Joins

abbrev aobj42 (v0 v1 : Value) : Obj := .cells #[v0, v1] 42
theorem ok_at {st : List Nat} {T : Pl} (h : okT T = true) : okT (atP st T) = true := by
  obtain ⟨h1, h2, h3⟩ := (okT_iff T).1 h
  exact (okT_iff _).2 ⟨by have := at_size st T; omega, by have := at_depth st T; omega, at_form st 4 T h3⟩
theorem row2a {w : World} {g : Nat} {x0 x1 : Value} {t : TypeId} (h : w.heap[g]? = some (.cells #[x0, x1] t)) : w.cell? ⟨g, 0, none⟩ = some x0 ∧ w.cell? ⟨g, 1, none⟩ = some x1 := by
  refine ⟨?_, ?_⟩ <;> (rw [cell_of_row _ _ _ _ _ _ h]; rfl)

/-- What lies there while PolicyAt goes on. -/
structure AS (w : World) (st st' : List Nat) (sv sv' : Value) (T : Pl) (x y : Nd) (gx gy : Nat) (q : P8) (W : World) : Prop where
  bel : Below w.heap.size w W
  rq : W.heap[w.heap.size + 1]? = some (pobj8 q)
  rs : W.heap[w.heap.size]? = some (aobj42 sv sv')
  rx : W.heap[gx]? = some (pobj x)
  px : PolAt All W T x
  ry : W.heap[gy]? = some (pobj y)
  py : PolAt All W (atP st T) y
  s0 : StAt W sv st
  s1 : StAt W sv' st'
theorem AS.below {w : World} {st st' : List Nat} {sv sv' : Value} {T : Pl} {x y : Nd} {gx gy : Nat} {q : P8} {W W' : World} (h : AS w st st' sv sv' T x y gx gy q W) (hb : Below W.heap.size W W') : AS w st st' sv sv' T x y gx gy q W' :=
  ⟨h.bel.trans (hb.mono h.bel.size), (hb.block _ (heap_lt h.rq)).trans h.rq, (hb.block _ (heap_lt h.rs)).trans h.rs, (hb.block _ (heap_lt h.rx)).trans h.rx, h.px.below hb, (hb.block _ (heap_lt h.ry)).trans h.ry, h.py.below hb, h.s0.below hb, h.s1.below hb⟩
theorem load4p {w : World} {g : Nat} (x : Nd) (h : w.heap[g]? = some (pobj x)) : (Instr.loadAt 30 (.pointer (some ⟨g, 0, none⟩))).run Try.prog w = .ok (nv x) w := by
  obtain ⟨a0, a1, a2, a3⟩ := row4 h
  go_simp
theorem load42 {w : World} {g : Nat} (sv sv' : Value) (h : w.heap[g]? = some (aobj42 sv sv')) : (Instr.loadAt 23 (.pointer (some ⟨g, 0, none⟩))).run Try.prog w = .ok sv w := by
  obtain ⟨a0, a1⟩ := row2a h
  go_simp

set_option maxRecDepth 100000 in
set_option maxHeartbeats 16000000 in
theorem pat_any (l0 : List Sp) (v0 : Value) (st st' : List Nat) (sv sv' : Value) (q : P8) (w : World) (h0 : Sps w v0 l0) (hm0 : l0.length ≤ 9223372036854775807) (hs0 : ∀ s ∈ l0, s.n ≤ 65535 ∧ s.k ≤ 255)
    (hst : StAt w sv st) (hm63 : st.length ≤ 9223372036854775807) (hst' : StAt w sv' st') (hm63' : st'.length ≤ 9223372036854775807) (hq : Q8 q) :
    Calls Try.prog 4 #[v0, .agg #[sv, sv'], q.v] w fun e w' => e = .returned (.bool true) ∧ Below w.heap.size w w' := by
  have HST := hid hst
  have HST2 := hid hst'
  have HQ := hid hq
  have HM := hid hm63
  have HM2 := hid hm63'
  have CP0 : Hid (∀ W, Below w.heap.size w W → Calls Try.prog 8 #[v0] W fun e w' => PileEnd W e w') := fun W hW => by
    obtain ⟨sa, sc, e, hc⟩ := h0
    refine pile_any l0 v0 W ⟨sa, sc, e, fun k hk => ?_⟩ hm0 hs0
    obtain ⟨b, off, e1, h1, h2⟩ := hc k hk
    exact ⟨b, off, e1, Nat.lt_of_lt_of_le h1 hW.size, fun j h4 => by rw [hW.cell (p := ⟨b, off + k * 4 + j, none⟩) h1]; exact h2 j h4⟩
  have cA := fun W => awake_any W
  obtain ⟨u0, x0, rfl, -⟩ := h0
  obtain ⟨ss, ssc, rfl, -⟩ := hst
  obtain ⟨ts, tsc, rfl, -⟩ := hst'
  obtain ⟨SL, eSL⟩ : ∃ SL, st.length = SL := ⟨_, rfl⟩
  obtain ⟨TL, eTL⟩ : ∃ TL, st'.length = TL := ⟨_, rfl⟩
  have HES := hid eSL
  have HET := hid eTL
  rw [eSL] at HST hm63 ⊢
  rw [eTL] at HST2 hm63' ⊢
  generalize l0.length = n0 at *
  clear hq hs0 hm0 eSL eTL
  go_enter Try.func4, Try.ntmps4
  go_wp2_with fail
  have hb0 : Below w.heap.size w ((w.alloc (aobj42 (.slice ss SL ssc) (.slice ts TL tsc))).alloc (pobj8 q)) := ((Below.refl _ w).alloc (Nat.le_refl _) _).alloc (by simp) _
  have hrq : ((w.alloc (aobj42 (.slice ss SL ssc) (.slice ts TL tsc))).alloc (pobj8 q)).heap[w.heap.size + 1]? = some (pobj8 q) := heap_alloc2_new w _ _
  have hrs : ((w.alloc (aobj42 (.slice ss SL ssc) (.slice ts TL tsc))).alloc (pobj8 q)).heap[w.heap.size]? = some (aobj42 (.slice ss SL ssc) (.slice ts TL tsc)) := (Below.heap_alloc _ _ _ (by simp)).trans (heap_alloc_new w _)
  refine (cA _).mono ?_
  rintro e w1 ⟨rfl, hb1⟩
  have HB1 : Hid (Below w.heap.size w w1) := hb0.trans (hb1.mono hb0.size)
  have HRQ1 : Hid (w1.heap[w.heap.size + 1]? = some (pobj8 q)) := (hb1.block _ (heap_lt hrq)).trans hrq
  have HRS1 : Hid (w1.heap[w.heap.size]? = some (aobj42 (.slice ss SL ssc) (.slice ts TL tsc))) := (hb1.block _ (heap_lt hrs)).trans hrs
  clear cA hb0 hrq hrs hb1
  go_wp2_with fail
  refine (CP0.out w1 HB1.out).mono ?_
  rintro e w2 ⟨⟨xo, xf, xn, xk⟩, ok0, rfl, hb2, ⟨sk, kn, skc, hkv⟩, hpol⟩
  dsimp only at hkv
  subst hkv
  have HB2 : Hid (Below w.heap.size w w2) := HB1.out.trans (hb2.mono HB1.out.size)
  have HRQ2 : Hid (w2.heap[w.heap.size + 1]? = some (pobj8 q)) := (hb2.block _ (heap_lt HRQ1.out)).trans HRQ1.out
  have HRS2 : Hid (w2.heap[w.heap.size]? = some (aobj42 (.slice ss SL ssc) (.slice ts TL tsc))) := (hb2.block _ (heap_lt HRS1.out)).trans HRS1.out
  clear hb2 HRQ1 HRS1 HB1 CP0
  have hbA : Below w2.heap.size w2 (w2.alloc (pobj ⟨xo, xf, xn, .slice sk kn skc⟩)) := (Below.refl _ _).alloc (Nat.le_refl _) _
  have HBA : Hid (Below w.heap.size w (w2.alloc (pobj ⟨xo, xf, xn, .slice sk kn skc⟩))) := HB2.out.trans (hbA.mono HB2.out.size)
  have HRQA : Hid ((w2.alloc (pobj ⟨xo, xf, xn, .slice sk kn skc⟩)).heap[w.heap.size + 1]? = some (pobj8 q)) := (hbA.block _ (heap_lt HRQ2.out)).trans HRQ2.out
  have HRSA : Hid ((w2.alloc (pobj ⟨xo, xf, xn, .slice sk kn skc⟩)).heap[w.heap.size]? = some (aobj42 (.slice ss SL ssc) (.slice ts TL tsc))) := (hbA.block _ (heap_lt HRS2.out)).trans HRS2.out
  have HRPA : Hid ((w2.alloc (pobj ⟨xo, xf, xn, .slice sk kn skc⟩)).heap[w2.heap.size]? = some (pobj ⟨xo, xf, xn, .slice sk kn skc⟩)) := heap_alloc_new _ _
  obtain ⟨q0, q1⟩ := row2a HRSA.out
  cases ok0 with
  | false =>
    clear hpol hbA
    go_wp2_with fail
    refine bodyPost_ret (v := .bool true) ?_ rfl ⟨rfl, HBA.out⟩
    simp [results, Try.results4, go_sem]
  | true =>
    obtain ⟨T, hT60, hTo, hTp⟩ := hpol rfl
    by_cases h6 : 6 < SL
    · have d6 : decide ((6 : Int) < (SL : Int)) = true := by simp; omega
      clear hTp hbA hpol
      go_wp2_with fail
      refine bodyPost_ret (v := .bool true) ?_ rfl ⟨rfl, HBA.out⟩
      simp [results, Try.results4, go_sem]
    · have d6 : decide ((6 : Int) < (SL : Int)) = false := by simp; omega
      by_cases h7 : 6 < TL
      · have d7 : decide ((6 : Int) < (TL : Int)) = true := by simp; omega
        clear hTp hbA hpol
        go_wp2_with fail
        refine bodyPost_ret (v := .bool true) ?_ rfl ⟨rfl, HBA.out⟩
        simp [results, Try.results4, go_sem]
      · have d7 : decide ((6 : Int) < (TL : Int)) = false := by simp; omega
        have HTP := hid (hTp.below hbA)
        clear hTp hbA hpol HRQ2 HRS2 HB2
        obtain ⟨p0, p1, p2, p3⟩ := row4 HRPA.out
        go_wp2_with fail
        refine (atT_any st _ HM.out T _ _ (by omega) HTP.out (HST.out.below HBA.out)).mono ?_
        rintro e w3 ⟨⟨yo, yf, yn, yk⟩, rfl, hpy, hb3⟩
        obtain ⟨-, -, -, yb, yd, hyv⟩ := hpy.shape
        dsimp only at hyv
        subst hyv
        generalize (atP st T).kids.length = yn2 at hpy ⊢
        have hbB : Below w3.heap.size w3 (w3.alloc (pobj ⟨yo, yf, yn, .slice yb yn2 yd⟩)) := (Below.refl _ _).alloc (Nat.le_refl _) _
        have hb3B := hb3.trans (hbB.mono hb3.size)
        have HBB : Hid (Below w.heap.size w (w3.alloc (pobj ⟨yo, yf, yn, .slice yb yn2 yd⟩))) := HBA.out.trans (hb3B.mono HBA.out.size)
        have HRQB : Hid ((w3.alloc (pobj ⟨yo, yf, yn, .slice yb yn2 yd⟩)).heap[w.heap.size + 1]? = some (pobj8 q)) := (hb3B.block _ (heap_lt HRQA.out)).trans HRQA.out
        have HRSB : Hid ((w3.alloc (pobj ⟨yo, yf, yn, .slice yb yn2 yd⟩)).heap[w.heap.size]? = some (aobj42 (.slice ss SL ssc) (.slice ts TL tsc))) := (hb3B.block _ (heap_lt HRSA.out)).trans HRSA.out
        have HRPB : Hid ((w3.alloc (pobj ⟨yo, yf, yn, .slice yb yn2 yd⟩)).heap[w2.heap.size]? = some (pobj ⟨xo, xf, xn, .slice sk kn skc⟩)) := (hb3B.block _ (heap_lt HRPA.out)).trans HRPA.out
        have HRYB : Hid ((w3.alloc (pobj ⟨yo, yf, yn, .slice yb yn2 yd⟩)).heap[w3.heap.size]? = some (pobj ⟨yo, yf, yn, .slice yb yn2 yd⟩)) := heap_alloc_new _ _
        have HTP3 := hid (HTP.out.below hb3B)
        have HPY := hid (hpy.below hbB)
        clear p0 p1 p2 p3 q0 q1 hpy hb3 hb3B hbB HRQA HRSA HRPA HTP
        have HAS : Hid (AS w st st' (.slice ss SL ssc) (.slice ts TL tsc) T ⟨xo, xf, xn, .slice sk kn skc⟩ ⟨yo, yf, yn, .slice yb yn2 yd⟩ w2.heap.size w3.heap.size q (w3.alloc (pobj ⟨yo, yf, yn, .slice yb yn2 yd⟩)).drew) :=
          AS.below ⟨HBB.out, HRQB.out, HRSB.out, HRPB.out, HTP3.out.mono fun _ _ _ => trivial, HRYB.out, HPY.out.mono fun _ _ _ => trivial, HST.out.below HBB.out, HST2.out.below HBB.out⟩ (below_drewN (Below.refl _ _) 1)
        clear HRQB HRSB HRPB HTP3 HRYB HPY HBB
        go_wp2_with fail
        refine region_slots (fun W => AS w st st' (.slice ss SL ssc) (.slice ts TL tsc) T ⟨xo, xf, xn, .slice sk kn skc⟩ ⟨yo, yf, yn, .slice yb yn2 yd⟩ w2.heap.size w3.heap.size q W) Gr (fun d => (([kP (atP st T), kP T, kV (.pointer (some ⟨w.heap.size, 0, none⟩)), kV (.slice ss SL ssc), kP (atP st T), kV (.bool true), kV (.bool false)] : List Kd).getD (d - 39) kT).holds) (by as_aux_lemma => kernel_rfl) (fun d v W W' hg h => Kd.below _ h hg) (fun W W' hg h => h.below hg) (by as_aux_lemma => kernel_rfl) (by as_aux_lemma => kernel_rfl) (by as_aux_lemma => kernel_rfl) HAS.out ?_ ?_
        · refine ⟨st_load 30 9 (.pointer (some ⟨w3.heap.size, 0, none⟩)) _ 39 rfl (by as_aux_lemma => kernel_rfl) (wanted_free rfl) rfl (by as_aux_lemma => kernel_rfl) rfl (fun W h => load4p _ h.ry) (fun W h => ⟨_, rfl, h.py⟩), ?_⟩
          refine ⟨st_load 30 7 (.pointer (some ⟨w2.heap.size, 0, none⟩)) _ 40 rfl (by as_aux_lemma => kernel_rfl) (wanted_free rfl) rfl (by as_aux_lemma => kernel_rfl) rfl (fun W h => load4p _ h.rx) (fun W h => ⟨_, rfl, h.px⟩), ?_⟩
          refine ⟨st_val 4 (.pointer (some ⟨w.heap.size, 0, none⟩)) (.pointer (some ⟨w.heap.size, 0, none⟩)) 41 rfl (by as_aux_lemma => kernel_rfl) (wanted_free rfl) (by as_aux_lemma => kernel_rfl) rfl (fun a W e => by simp only [execOp, e]; go_simp) (fun W => rfl), ?_⟩
          refine ⟨st_loadAt 23 41 (.pointer (some ⟨w.heap.size, 0, none⟩)) (.slice ss SL ssc) 42 rfl (by as_aux_lemma => kernel_rfl) (wanted_free rfl) rfl (by as_aux_lemma => kernel_rfl) (fun _ _ h => h) (fun W h => load42 _ _ h.rs) (fun W h => rfl), ?_⟩
          refine ⟨st_call2 15 40 42 (fun _ _ _ => by go_simp) 43 rfl (by as_aux_lemma => kernel_rfl) (wanted_free rfl) _ rfl (by as_aux_lemma => kernel_rfl) (by as_aux_lemma => kernel_rfl) (fun v u W hB h h' => ?_), ?_⟩
          · obtain ⟨z, rfl, hz⟩ : ∃ z, v = nv z ∧ PolAt All W T z := h
            obtain rfl : u = .slice ss SL ssc := h'
            refine (dat_any st _ HM.out 1000 T z W (by omega) (by omega) hz hB.s0).mono ?_
            rintro e W' ⟨y2, rfl, hp2, hb2⟩
            exact ⟨_, rfl, hb2, ⟨y2, rfl, hp2.mono fun _ _ _ => trivial⟩⟩
          refine ⟨st_call2 14 39 43 (fun _ _ _ => by go_simp) 44 rfl (by as_aux_lemma => kernel_rfl) (wanted_free rfl) _ rfl (by as_aux_lemma => kernel_rfl) (by as_aux_lemma => kernel_rfl) (fun v u W hB h h' => ?_), ?_⟩
          · obtain ⟨z, rfl, hz⟩ : ∃ z, v = nv z ∧ PolAt All W (atP st T) z := h
            obtain ⟨z2, rfl, hz2⟩ : ∃ z, u = nv z ∧ PolAt All W (atP st T) z := h'
            refine (samePol_any 1000 (atP st T) z z2 W (by have := at_size st T; omega) (by omega) hz hz2).mono ?_
            rintro e W' ⟨rfl, hb2⟩
            exact ⟨_, rfl, hb2, rfl⟩
          refine ⟨st_not 44 true 4 45 rfl (by as_aux_lemma => kernel_rfl) (wanted_free rfl) rfl (by as_aux_lemma => kernel_rfl) (fun _ _ h => h) (fun W => rfl), ?_⟩
          trivial
        · intro a w4 hB hO hD
          obtain ⟨v39, e39, -⟩ := Slot.getD (hD 0 _ 39 rfl rfl)
          obtain ⟨v40, e40, -⟩ := Slot.getD (hD 1 _ 40 rfl rfl)
          obtain ⟨v41, e41, -⟩ := Slot.getD (hD 2 _ 41 rfl rfl)
          obtain ⟨v42, e42, -⟩ := Slot.getD (hD 3 _ 42 rfl rfl)
          obtain ⟨v43, e43, -⟩ := Slot.getD (hD 4 _ 43 rfl rfl)
          obtain ⟨v44, e44, -⟩ := Slot.getD (hD 5 _ 44 rfl rfl)
          obtain ⟨v45, e45, h45⟩ := Slot.getD (hD 6 _ 45 rfl rfl)
          obtain rfl : v45 = .bool false := h45
          have ha := hO.lit [39, 40, 41, 42, 43, 44, 45] (by as_aux_lemma => kernel_rfl)
          simp only [List.foldl_cons, List.foldl_nil, e39, e40, e41, e42, e43, e44, e45, List.setIfInBounds_toArray, List.set_cons_succ, List.set_cons_zero] at ha
          clear hD hO e39 e40 e41 e42 e43 e44 e45
          subst ha
          have HB := hid hB
          clear hB HAS
          obtain ⟨p0, p1, p2, p3⟩ := row4 HB.out.rx
          have cR := right_any (P := All) T ⟨xo, xf, xn, .slice sk kn skc⟩ w4 (by omega) HB.out.px
          cases hok : okT T with
          | false =>
            rw [hok] at cR
            clear hok
            go_wp2_with fail
            refine cR.mono ?_
            rintro e w5 ⟨rfl, hb5⟩
            have HB5 := hid (HB.out.below hb5)
            clear hb5 cR p0 p1 p2 p3
            go_wp2_with fail
            refine bodyPost_ret (v := .bool true) ?_ rfl ⟨rfl, HB5.out.bel⟩
            simp [results, Try.results4, go_sem]
          | true =>
            have HOK := hid hok
            rw [hok] at cR
            clear hok
            go_wp2_with fail
            refine cR.mono ?_
            rintro e w5 ⟨rfl, hb5⟩
            have HB5 := hid (HB.out.below hb5)
            clear hb5 cR p0 p1 p2 p3 HB
            obtain ⟨p0, p1, p2, p3⟩ := row4 HB5.out.rx
            obtain ⟨⟨s0, s1, s2, s3, s4, s5, s6, s7⟩, -, -⟩ := row8 HB5.out.rq
            obtain ⟨q0, q1⟩ := row2a HB5.out.rs
            have cM := make_any st _ HM.out T ⟨xo, xf, xn, .slice sk kn skc⟩ q w5 (by omega) hTo HQ.out HB5.out.px HB5.out.s0 (fun _ => .inr fun B G => many_any B G)
            go_wp2_with fail
            refine cM.mono ?_
            rintro e w6 ⟨v, z, rfl, hb6, hm⟩
            have HB6 := hid (HB5.out.below hb6)
            have HMM := hid hm
            clear hb6 hm cM p0 p1 p2 p3 s0 s1 s2 s3 s4 s5 s6 s7 q0 q1 HB5
            obtain ⟨y0, y1, y2, y3⟩ := row4 HB6.out.ry
            obtain ⟨⟨s0, s1, s2, s3, s4, s5, s6, s7⟩, -, -⟩ := row8 HB6.out.rq
            obtain ⟨q0, q1⟩ := row2a HB6.out.rs
            have cM := make_any st' _ HM2.out (atP st T) ⟨yo, yf, yn, .slice yb yn2 yd⟩ q w6 (by have := at_size st T; omega) (at_ok st T hTo) HQ.out HB6.out.py HB6.out.s1 (fun _ => .inr fun B G => many_any B G)
            go_wp2_with fail
            refine cM.mono ?_
            rintro e w7 ⟨v2, z2, rfl, hb7, hd⟩
            have HB7 := hid (HB6.out.below hb7)
            have key : (v = .slice none 0 0 ∧ v2 = .slice none 0 0 ∧ z = 24 ∧ z2 = 24) ∨ (∃ l, z = 0 ∧ z2 = 0 ∧ Pks w7 v l ∧ Pks w7 v2 l ∧ l.length ≤ 64) := by
              have ho2 : okT (atP st T) = true := ok_at HOK.out
              rw [ho2, mkP_at] at hd
              have hm := HMM.out
              rw [HOK.out] at hm
              rcases hm with ⟨h1, -⟩ | ⟨-, h2, rfl, rfl⟩ | ⟨-, l, h2, rfl, hv⟩ <;> rcases hd with ⟨k1, -⟩ | ⟨-, k2, rfl, rfl⟩ | ⟨-, l', k2, rfl, hv'⟩
              · cases h1
              · cases h1
              · cases h1
              · cases k1
              · exact .inl ⟨rfl, rfl, rfl, rfl⟩
              · rw [h2] at k2; cases k2
              · cases k1
              · rw [h2] at k2; cases k2
              · rw [h2] at k2
                injection k2 with k2
                subst k2
                exact .inr ⟨l, rfl, rfl, hv.pks.below hb7, hv'.pks, mkP_len st T q l h2⟩
            clear hb7 hd cM s0 s1 s2 s3 s4 s5 s6 s7 q0 q1 y0 y1 y2 y3 HB6 HMM
            rcases key with ⟨rfl, rfl, rfl, rfl⟩ | ⟨l, rfl, rfl, hv1, hv2, hl64⟩
            · go_wp2_with fail
              refine (same25 _ _ [] (by simp) w7 (pks_nil _) (pks_nil _)).mono ?_
              rintro e w8 ⟨rfl, hb8⟩
              have HB8 := hid (HB7.out.below hb8)
              clear hb8
              go_wp2_with fail
              refine bodyPost_ret (v := .bool true) ?_ rfl ⟨rfl, HB8.out.bel⟩
              simp [results, Try.results4, go_sem]
            · obtain ⟨a1, c1, rfl, -⟩ := hv1.form
              obtain ⟨a2, c2, rfl, -⟩ := hv2.form
              have cS := hid (same25 _ _ l (by omega) w7 hv1 hv2)
              clear hv1 hv2 hl64
              generalize l.length = LN at *
              go_wp2_with fail
              refine (cS.out).mono ?_
              rintro e w8 ⟨rfl, hb8⟩
              have HB8 := hid (HB7.out.below hb8)
              clear hb8
              go_wp2_with fail
              refine bodyPost_ret (v := .bool true) ?_ rfl ⟨rfl, HB8.out.bel⟩
              simp [results, Try.results4, go_sem]
end Go.Proofs.Ytipiepcbgjceaaa
/- The statement PolicyAtSaid: for every list of steps, every two states and every packet the law PolicyAt returns true and leaves its arguments as they were; nothing is asked of the input. -/
set_option linter.unusedVariables false
set_option linter.unusedSimpArgs false
namespace Go.Proofs.Ytipiepcbgjceaaa
open Go.ChangeShapes Go.WideShapes Go.ChangeAt Go.RowKit Go.ChangeMaps Go.Joins

set_option maxRecDepth 100000 in
theorem pat_contract (H : Type) (enc : TypeId × Value → H) (W : World) (base : Nat) (args : Array Value) (ds gs : List (DataW H)) (before : List MemPlace)
    (hval : ∀ (j : Nat) t v, Try.f4.params[j]? = some t → args[j]? = some v → Value.okWide Try.prog W .any base t v)
    (hW : DataW.Whole enc Try.prog Try.f4.params.toList Rows.policyAtSpec.vars false W args.toList ds gs before) :
    Calls Try.prog 4 args W fun e W' => ∃ v, e = .returned v ∧ Rows.policyAtSpec.post enc Try.prog Try.f4 false true false false W args v W' := by
  have hW' := hW
  obtain ⟨p, q, hA0, hV, rfl, hfz, hnd⟩ := hW
  have hA : DataW.TrodAll enc Try.prog W 0 (fun _ => true) true Try.f4.params.toList args.toList ds p := hA0
  have hA1 := hA
  rw [Try.params4] at hA hval
  obtain ⟨v0, vs0, d0, ds0, p0, q0, hargs, rfl, rfl, h0, r0⟩ := trodAll_cons hA
  obtain ⟨v1, vs1, d1, ds1, p1, q1, rfl, rfl, rfl, h1, r1⟩ := trodAll_cons r0
  obtain ⟨v2, vs2, d2, ds2, p2, q2, rfl, rfl, rfl, h2, r2⟩ := trodAll_cons r1
  obtain ⟨rfl, rfl, rfl⟩ := trodAll_nil r2
  obtain rfl : args = #[v0, v1, v2] := Array.toList_inj.1 hargs
  obtain ⟨rfl, rfl⟩ := trodVars_none hV
  obtain ⟨s0, n0, sc0, rfl⟩ := okWide_slice Try.underlying22 (hval 0 22 v0 rfl rfl)
  obtain ⟨cs, rfl⟩ := okWide_array Try.underlying42 (hval 1 42 v1 rfl rfl)
  obtain ⟨ps, rfl⟩ := okWide_array Try.underlying26 (hval 2 26 v2 rfl rfl)
  obtain ⟨m0, hm0⟩ := h0
  obtain ⟨m1, hm1⟩ := h1
  obtain ⟨m2, hm2⟩ := h2
  obtain ⟨l0, k0, k1, k2⟩ := steps_of_trod (show DataW.trod enc Try.prog W 0 _ true m0 22 [.slice s0 n0 sc0] = some _ from hm0)
  obtain ⟨w0, w1, hcs, ⟨st, a0, c0, rfl, i0, i1, i2⟩, ⟨st', a1, c1, rfl, j0, j1, j2⟩⟩ := states2_of_trod hm1
  obtain ⟨b0, b1, b2, b3, b4, b5, b6, b7, hps, hbd⟩ := packet_of_trod hm2
  have ecs : cs = #[.slice a0 st.length c0, .slice a1 st'.length c1] := by apply Array.toList_inj.1; exact hcs
  have eps := packet_is (cs := ps) hps
  subst ecs
  have walk : Calls Try.prog 4 #[.slice s0 n0 sc0, .agg #[.slice a0 st.length c0, .slice a1 st'.length c1], .agg ps] W fun e w' => e = .returned (.bool true) ∧ Below W.heap.size W w' := by
    rw [eps]
    exact pat_any l0 _ st st' _ _ ⟨b0, b1, b2, b3, b4, b5, b6, b7⟩ W k1 k0 k2 i1 i0 j1 j0 hbd
  refine walk.mono fun e W' ⟨he, bel⟩ => ?_
  subst he
  have hback := trodAll_below bel _ _ _ _ (by rw [Try.params4]; intro t ht; simp at ht; rcases ht with rfl | rfl | rfl <;> exact ⟨by kernel_rfl, of_decide_eq_true (by kernel_rfl)⟩) hA1
  exact ⟨_, rfl, _, _, _, [], _, [], hW', trodAll_mk1 (shut_bool Try.underlying4 _), hback, rfl, bel.frame _, fun h => by cases h⟩

set_option maxRecDepth 100000 in
theorem pat_lifted (os : Os) (started : os.Started) (H : Type) (enc : TypeId × Value → H) :
    ReturnsInHanded {} Try.checked os 4 .any (Rows.policyAtSpec.pre6 enc Try.prog Try.f4 Rows.policyAtRow.domain false) (Rows.policyAtSpec.post enc Try.prog Try.f4 false true false false) := by
  refine returnsInHanded_of_change (C := Try.checked) own started (by kernel_rfl) Try.func4
    (ChangeSpec.witness6 (enc := enc) (C := Try.checked) false ⟨#[], #[.slice none 0 0, .agg #[.slice none 0 0, .slice none 0 0], pk 0 0 0 0 0 0 0 0], []⟩ 8 (by kernel_rfl) (by kernel_rfl) (by kernel_rfl) (by kernel_rfl)) ?_
  intro W base args ds gs before hval hW _ _
  exact pat_contract H enc W base args ds gs before hval hW

theorem pat_holds : Rows.PolicyAtSaid :=
  OpenClaim.holds_of_wide 4 Try.f4 rfl rfl rfl rfl rfl rfl rfl ⟨rfl, rfl, rfl, rfl, rfl⟩ rfl rfl rfl rfl rfl (by kernel_rfl) Try.func4 (by kernel_rfl)
    (of_decide_eq_true (by kernel_rfl)) (by unfold Func.isWrapper; first | (rw [if_pos (by decide +kernel)]; kernel_rfl) | (rw [if_neg (by decide +kernel)]; exact ⟨rfl, rfl⟩))
    (fun os started H enc _ => pat_lifted os started H enc)
end Go.Proofs.Ytipiepcbgjceaaa
