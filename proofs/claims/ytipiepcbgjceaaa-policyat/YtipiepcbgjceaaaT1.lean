/- What the document's At answers: the policy in that state; policies of up to 1000 nodes. -/
import Derived.Test.YtipiepcbgjceaaaG3
import Derived.Test.YtipiepcbgjceaaaO1
import Derived.Test.YtipiepcbgjceaaaR8
import Derived.Maps.AppendAt
import Derived.Deep.AppendLies
import Derived.Deep.RegionLaw
set_option linter.unusedVariables false
set_option linter.unusedSimpArgs false
namespace Go.Proofs.Ytipiepcbgjceaaa
open Go.RowKit Go.Joins

set_option maxRecDepth 100000 in
set_option maxHeartbeats 8000000 in
theorem dat_any {P : Nat → Prop} (st : List Nat) (sv : Value) (hm63 : st.length ≤ 9223372036854775807) : ∀ (m : Nat) (T : Pl) (x : Nd) (w : World), sizeP T ≤ m → m ≤ 1000 → PolAt P w T x → StAt w sv st →
    Calls Try.prog 15 #[nv x, sv] w fun e w' => ∃ y, e = .returned (nv y) ∧ PolAt (fun b => w.heap.size ≤ b) w' (atP st T) y ∧ Below w.heap.size w w'
  | 0, T, x, w, h, _, _, _ => absurd (size_pos T) (by omega)
  | m + 1, .mk op f n kids, x, w, hs, hm, hp, hst => by
    obtain ⟨sa, sc, rfl, hk⟩ := hp.open
    have ih := fun T x w h => dat_any (P := P) st sv hm63 m T x w h (by omega)
    rw [sizeP_mk] at hs
    have hl := len_le kids
    have HK := hid hk
    have IH := hid ih
    have HST : Hid (StAt w sv st) := hst
    obtain ⟨i0, hi, hz0, hz1, hz2⟩ := info_parts info29
    have hsk : ∀ k (hk : k < kids.length), sizeP kids[k] ≤ m := fun k hk => by have := size_get kids k hk; omega
    have HSK := hid hsk
    obtain ⟨R, hR⟩ : ∃ R, kids.length = R := ⟨_, rfl⟩
    have HR := hid hR
    rw [hR] at hl ⊢
    obtain ⟨ss, ssc, rfl, hsc⟩ := hst
    obtain ⟨SL, hSL⟩ : ∃ SL, st.length = SL := ⟨_, rfl⟩
    have HSL := hid hSL
    have HSC := hid hsc
    rw [hSL] at hm63 HST IH ⊢
    have hb0 : Below w.heap.size w ((w.alloc (pobj ⟨op, f, n, .slice sa R sc⟩)).alloc nobj) := ((Below.refl _ w).alloc (Nat.le_refl _) _).alloc (by simp) _
    have hr0 : ((w.alloc (pobj ⟨op, f, n, .slice sa R sc⟩)).alloc nobj).heap[w.heap.size + 1]? = some nobj := heap_alloc2_new w _ _
    have hr1 : ((w.alloc (pobj ⟨op, f, n, .slice sa R sc⟩)).alloc nobj).heap[w.heap.size]? = some (pobj ⟨op, f, n, .slice sa R sc⟩) := (Below.heap_alloc _ _ _ (by simp)).trans (heap_alloc_new w _)
    have HB0 := hid hb0
    have HR0 := hid hr0
    have HR1 := hid hr1
    clear hk ih hp hb0 hsk hR hSL hsc hr0 hr1
    rw [atP_mk]
    by_cases h3 : op = 3
    · subst h3
      rw [if_pos rfl]
      obtain ⟨r0, r1, r2, r3⟩ := row4 HR1.out
      obtain ⟨t0, t1, t2, t3⟩ := row4 HR0.out
      obtain ⟨z0, z1, z2, z3⟩ := frz4 HR0.out
      by_cases hf0 : 0 ≤ f
      · have d0 : decide (0 ≤ f) = true := by simp; omega
        obtain ⟨F, rfl⟩ : ∃ F : Nat, f = (F : Int) := ⟨f.toNat, by omega⟩
        by_cases hlt : F < SL
        · have hlt' : F < st.length := by rw [HSL.out]; exact hlt
          obtain ⟨b, off, rfl, hbl, hc⟩ := HSC.out F hlt'
          obtain ⟨x, hxx⟩ : ∃ x, st[F] = x := ⟨_, rfl⟩
          rw [hxx] at hc
          have hc2 := (HB0.out.cell (p := ⟨b, off + F, none⟩) hbl).trans hc
          have dF : decide ((F : Int) < (SL : Int)) = true := by simp; omega
          have HX : partIs st (F : Int) n = decide ((x : Int) = n) := by
            unfold partIs
            rw [decide_eq_true (show (0 : Int) ≤ (F : Int) by omega), decide_eq_true (show (F : Int) < (st.length : Int) by omega), Int.toNat_natCast, List.getD_eq_getElem?_getD, List.getElem?_eq_getElem hlt', Option.getD_some, hxx]
            simp
          clear hxx hc
          by_cases hn : (x : Int) = n
          · have dn : ((x : Int) == n) = true := by simp [hn]
            rw [HX, decide_eq_true hn]
            clear hn HX
            go_enter Try.func15, Try.ntmps15
            go_wp2
            go_quiet (fail)
            go_wp2_with fail
            have hq := ((below_drewN (Below.refl _ ((w.alloc (pobj ⟨3, (F : Int), n, .slice sa R sc⟩)).alloc nobj)) nq).block _ (heap_lt HR0.out)).trans HR0.out
            have hres := set4 (.int .i64 1) (.int .i64 0) (.int .u16 0) (.slice none 0 0) hq
            obtain ⟨g0, g1, g2, g3⟩ := row4 hres
            have HBe := hid (HB0.out.trans ((below_drewN (Below.refl _ ((w.alloc (pobj ⟨3, (F : Int), n, .slice sa R sc⟩)).alloc nobj)) nq).mono HB0.out.size))
            refine bodyPost_ret (v := nv ⟨1, 0, 0, .slice none 0 0⟩) ?_ rfl ⟨_, rfl, PolAt.leaf _ _ _ _ _, ?_⟩
            · simp [results, Try.results15, go_sem, g0, g1, g2, g3]
            · exact (((HBe.out.setCell (by show w.heap.size ≤ w.heap.size + 1; omega) _).setCell (by show w.heap.size ≤ w.heap.size + 1; omega) _).setCell (by show w.heap.size ≤ w.heap.size + 1; omega) _).setCell (by show w.heap.size ≤ w.heap.size + 1; omega) _
          · have dn : ((x : Int) == n) = false := by simp [hn]
            rw [HX, decide_eq_false hn]
            clear hn HX
            go_enter Try.func15, Try.ntmps15
            go_wp2
            go_quiet (fail)
            go_wp2_with fail
            have hq := ((below_drewN (Below.refl _ ((w.alloc (pobj ⟨3, (F : Int), n, .slice sa R sc⟩)).alloc nobj)) nq).block _ (heap_lt HR0.out)).trans HR0.out
            have hres := set4 (.int .i64 0) (.int .i64 0) (.int .u16 0) (.slice none 0 0) hq
            obtain ⟨g0, g1, g2, g3⟩ := row4 hres
            have HBe := hid (HB0.out.trans ((below_drewN (Below.refl _ ((w.alloc (pobj ⟨3, (F : Int), n, .slice sa R sc⟩)).alloc nobj)) nq).mono HB0.out.size))
            refine bodyPost_ret (v := nv ⟨0, 0, 0, .slice none 0 0⟩) ?_ rfl ⟨_, rfl, PolAt.leaf _ _ _ _ _, ?_⟩
            · simp [results, Try.results15, go_sem, g0, g1, g2, g3]
            · exact (((HBe.out.setCell (by show w.heap.size ≤ w.heap.size + 1; omega) _).setCell (by show w.heap.size ≤ w.heap.size + 1; omega) _).setCell (by show w.heap.size ≤ w.heap.size + 1; omega) _).setCell (by show w.heap.size ≤ w.heap.size + 1; omega) _
        · have dF : decide ((F : Int) < (SL : Int)) = false := by simp; omega
          have HP : partIs st (F : Int) n = false := by
            unfold partIs
            rw [decide_eq_false (show ¬ (F : Int) < (st.length : Int) by rw [HSL.out]; omega)]
            simp
          rw [HP]
          clear HP
          go_enter Try.func15, Try.ntmps15
          go_wp2
          go_quiet (fail)
          go_wp2_with fail
          have hq := ((below_drewN (Below.refl _ ((w.alloc (pobj ⟨3, (F : Int), n, .slice sa R sc⟩)).alloc nobj)) nq).block _ (heap_lt HR0.out)).trans HR0.out
          have hres := set4 (.int .i64 0) (.int .i64 0) (.int .u16 0) (.slice none 0 0) hq
          obtain ⟨g0, g1, g2, g3⟩ := row4 hres
          have HBe := hid (HB0.out.trans ((below_drewN (Below.refl _ ((w.alloc (pobj ⟨3, (F : Int), n, .slice sa R sc⟩)).alloc nobj)) nq).mono HB0.out.size))
          refine bodyPost_ret (v := nv ⟨0, 0, 0, .slice none 0 0⟩) ?_ rfl ⟨_, rfl, PolAt.leaf _ _ _ _ _, ?_⟩
          · simp [results, Try.results15, go_sem, g0, g1, g2, g3]
          · exact (((HBe.out.setCell (by show w.heap.size ≤ w.heap.size + 1; omega) _).setCell (by show w.heap.size ≤ w.heap.size + 1; omega) _).setCell (by show w.heap.size ≤ w.heap.size + 1; omega) _).setCell (by show w.heap.size ≤ w.heap.size + 1; omega) _
      · have d0 : decide (0 ≤ f) = false := by simp; omega
        have hp : partIs st f n = false := by unfold partIs; simp [d0]
        rw [hp]
        clear hp
        go_enter Try.func15, Try.ntmps15
        go_wp2
        go_quiet (fail)
        go_wp2_with fail
        have hq := ((below_drewN (Below.refl _ ((w.alloc (pobj ⟨3, f, n, .slice sa R sc⟩)).alloc nobj)) nq).block _ (heap_lt HR0.out)).trans HR0.out
        have hres := set4 (.int .i64 0) (.int .i64 0) (.int .u16 0) (.slice none 0 0) hq
        obtain ⟨g0, g1, g2, g3⟩ := row4 hres
        have HBe := hid (HB0.out.trans ((below_drewN (Below.refl _ ((w.alloc (pobj ⟨3, f, n, .slice sa R sc⟩)).alloc nobj)) nq).mono HB0.out.size))
        refine bodyPost_ret (v := nv ⟨0, 0, 0, .slice none 0 0⟩) ?_ rfl ⟨_, rfl, PolAt.leaf _ _ _ _ _, ?_⟩
        · simp [results, Try.results15, go_sem, g0, g1, g2, g3]
        · exact (((HBe.out.setCell (by show w.heap.size ≤ w.heap.size + 1; omega) _).setCell (by show w.heap.size ≤ w.heap.size + 1; omega) _).setCell (by show w.heap.size ≤ w.heap.size + 1; omega) _).setCell (by show w.heap.size ≤ w.heap.size + 1; omega) _
    · rw [if_neg h3]
      have d3 : (op == 3) = false := by simpa using h3
      go_enter Try.func15, Try.ntmps15
      have HP0 : Hid (PSt (w.alloc (pobj ⟨op, f, n, .slice sa R sc⟩)) (w.heap.size + 2) [] (.slice none 0 0) [] ((w.alloc (pobj ⟨op, f, n, .slice sa R sc⟩)).alloc nobj)) :=
        ⟨World.ownsRow_nil _ _ _ _, ⟨rfl, fun i h => by simp at h⟩, (Below.refl _ _).alloc (Nat.le_refl _) _, by simp, by simp, by have := HR0.out; simpa using this⟩
      have HX0 : Hid (∃ w1, (Below w.heap.size w w1 ∧ w1.heap[w.heap.size]? = some (pobj ⟨op, f, n, .slice sa R sc⟩) ∧ w1.heap.size = w.heap.size + 1) ∧ PSt w1 (w.heap.size + 2) [] (.slice none 0 0) [] ((w.alloc (pobj ⟨op, f, n, .slice sa R sc⟩)).alloc nobj)) := ⟨_, ⟨(Below.refl _ w).alloc (Nat.le_refl _) _, heap_alloc_new _ _, by simp⟩, HP0.out⟩
      obtain ⟨w1, hW1, hP1⟩ := HX0.out
      have HW1 := hid hW1
      have HP1 := hid hP1
      clear HX0 HP0 hW1 hP1
      go_wp2_with fail
      go_loopw [5, 6] (fun v i wr => ∃ (k : Nat) (xs : List Nd), k ≤ R ∧ i = .int .i64 (k : Int) ∧ xs.length = k ∧ Hid (PSt w1 (w.heap.size + 2) ((kids.take k).map (atP st)) v xs wr)) (fun _ i _ => R - (intOf i).toNat)
      case atStart => exact ⟨0, [], Nat.zero_le _, rfl, rfl, HP1⟩
      case round =>
        obtain ⟨k, xs, hkR, rfl, hxl, HS⟩ := hrel
        obtain ⟨sv, scv, rfl⟩ := own_shape HS.out.own
        rw [hxl] at HS ⊢
        have HBr : Hid (Below w.heap.size w wr) := HW1.out.1.trans (HS.out.bel.mono HW1.out.1.size)
        have HXr : Hid (wr.heap[w.heap.size]? = some (pobj ⟨op, f, n, .slice sa R sc⟩)) := (HS.out.bel.block _ (by have := HW1.out.2.2; omega)).trans HW1.out.2.1
        obtain ⟨p0, p1, p2, p3⟩ := row4 HXr.out
        by_cases hlt : k < R
        · have hlt' : k < kids.length := by rw [HR.out]; exact hlt
          have dk : decide ((k : Int) < (R : Int)) = true := by simp; omega
          obtain ⟨b, off, sa2, n2, sc2, y0, y1, y2, rfl, hbk, ha, hpk⟩ := HK.out k hlt'
          obtain ⟨a0, a1, a2, a3⟩ := ha.same (HBr.out.block b hbk)
          have cI := IH.out kids[k] _ wr (HSK.out k hlt') (hpk.below HBr.out) (HST.out.below HBr.out)
          have HT : Hid ((kids.take (k + 1)).map (atP st) = (kids.take k).map (atP st) ++ [atP st kids[k]]) := by
            unfold Hid
            rw [List.take_succ_eq_append_getElem hlt', List.map_append]; rfl
          clear ha hpk hbk
          go_wp2_with fail
          refine cI.mono ?_
          rintro e w2 ⟨⟨yo, yf, yn, yk⟩, rfl, hpy, hb2⟩
          obtain ⟨-, -, -, yb, yd, hyv⟩ := hpy.shape
          dsimp only at hyv
          subst hyv
          generalize (atP st kids[k]).kids.length = kn2 at hpy ⊢
          have HS2 := hid (HS.out.below hb2)
          have HPy := hid (hpy.mono (Q := fun b => w.heap.size + 2 ≤ b ∧ some b ≠ (Value.slice sv k scv).ownBlock) fun b hb _ => HS.out.vlt b hb)
          have hown := HS2.out.own
          rw [hxl] at hown
          have hsz2 := HS2.out.siz
          clear hpy hb2 cI p0 p1 p2 p3 a0 a1 a2 a3
          go_wp2_with (at_builtin; go_loud (refine wpList_append_own_at _ rfl _ _ 28 rfl (w.heap.size + 2) 30 i0 (nv ⟨0, 0, 0, .slice none 0 0⟩) 4 48 Try.underlying28 hi hz0 hz1 hz2 rfl (by decide) (.slice sv k scv) _ _ rfl (hown.alloc _) ⟨w2.heap.size, 0, none⟩ 1 1 (enc4 ⟨yo, yf, yn, .slice yb kn2 yd⟩) rfl rfl (cell_new4 _ _ _ rfl) (enc4_one _ rfl) (by unfold maxLen; omega) (by omega) (by simp; omega) ?_; intro v4 w4 hown4 hgrow4 hnil4 hloc4))
          have HS4 : Hid (PSt w1 (w.heap.size + 2) ((kids.take (k + 1)).map (atP st)) v4 (xs ++ [⟨yo, yf, yn, .slice yb kn2 yd⟩]) w4) := by
            unfold Hid
            rw [HT.out]
            exact HS2.out.app ((Below.refl _ _).alloc (Nat.le_refl _) _) hxl HPy.out hown4 hgrow4 hloc4
          clear hown4 hgrow4 hnil4 hloc4 hown HS HPy
          go_wp2
          go_roundw
          case rel => exact ⟨k + 1, _, by omega, by go_num, by simp; omega, HS4⟩
          case measure => simp [intOf]; omega
        · obtain rfl : k = R := by omega
          have dk : decide ((k : Int) < (k : Int)) = false := by simp
          obtain ⟨z0, z1, z2, z3⟩ := frz4 HXr.out
          have HRr : Hid (wr.heap[w.heap.size + 1]? = some nobj) := by
            have := HS.out.res
            rw [HW1.out.2.2] at this
            exact this
          obtain ⟨t0, t1, t2, t3⟩ := row4 HRr.out
          obtain ⟨c0, c1, c2, c3⟩ := frz4 HRr.out
          have hq : (wr.setCell ⟨w.heap.size, 3, none⟩ (.slice sv k scv)).heap[w.heap.size + 1]? = some nobj := by rw [heap_setCell_other _ _ _ _ (show w.heap.size + 1 ≠ w.heap.size by omega)]; exact HRr.out
          have hres := set4 (.int .i64 op) (.int .i64 f) (.int .u16 n) (.slice sv k scv) hq
          obtain ⟨g0, g1, g2, g3⟩ := row4 hres
          have HG := hid hres
          have HE : Hid (PolAt (fun b => w.heap.size ≤ b) (((((wr.setCell ⟨w.heap.size, 3, none⟩ (.slice sv k scv)).setCell ⟨w.heap.size + 1, 0, none⟩ (.int .i64 op)).setCell ⟨w.heap.size + 1, 1, none⟩ (.int .i64 f)).setCell ⟨w.heap.size + 1, 2, none⟩ (.int .u16 n)).setCell ⟨w.heap.size + 1, 3, none⟩ (.slice sv k scv)) (.mk op f n (atP.atL st kids)) ⟨op, f, n, .slice sv k scv⟩ ∧ Below w.heap.size w (((((wr.setCell ⟨w.heap.size, 3, none⟩ (.slice sv k scv)).setCell ⟨w.heap.size + 1, 0, none⟩ (.int .i64 op)).setCell ⟨w.heap.size + 1, 1, none⟩ (.int .i64 f)).setCell ⟨w.heap.size + 1, 2, none⟩ (.int .u16 n)).setCell ⟨w.heap.size + 1, 3, none⟩ (.slice sv k scv))) := by
            refine ⟨?_, ?_⟩
            · have e : (kids.take k).map (atP st) = atP.atL st kids := by rw [List.take_of_length_le (by rw [HR.out]; exact Nat.le_refl _), atL_map]
              have hps := HS.out.pols
              rw [e] at hps
              have hp := pol_of_own (Q := fun b => w.heap.size + 2 ≤ b) op f n HS.out.own hps (fun b h _ => h.1) (fun b h => h)
              have := ((((hp.set (a := ⟨w.heap.size, 3, none⟩) (by show ¬ (w.heap.size + 2 ≤ w.heap.size); omega) (.slice sv k scv)).set (a := ⟨w.heap.size + 1, 0, none⟩) (by show ¬ (w.heap.size + 2 ≤ w.heap.size + 1); omega) (.int .i64 op)).set (a := ⟨w.heap.size + 1, 1, none⟩) (by show ¬ (w.heap.size + 2 ≤ w.heap.size + 1); omega) (.int .i64 f)).set (a := ⟨w.heap.size + 1, 2, none⟩) (by show ¬ (w.heap.size + 2 ≤ w.heap.size + 1); omega) (.int .u16 n)).set (a := ⟨w.heap.size + 1, 3, none⟩) (by show ¬ (w.heap.size + 2 ≤ w.heap.size + 1); omega) (.slice sv k scv)
              exact this.mono (Q := fun b => w.heap.size ≤ b) fun b (h : w.heap.size + 2 ≤ b) _ => (show w.heap.size ≤ b by omega)
            · exact ((((HBr.out.setCell (Nat.le_refl _) _).setCell (by show w.heap.size ≤ w.heap.size + 1; omega) _).setCell (by show w.heap.size ≤ w.heap.size + 1; omega) _).setCell (by show w.heap.size ≤ w.heap.size + 1; omega) _).setCell (by show w.heap.size ≤ w.heap.size + 1; omega) _
          clear hq hres
          go_wp2_with fail
          refine bodyPost_ret (v := nv ⟨op, f, n, .slice sv k scv⟩) ?_ rfl ⟨_, rfl, HE.out.1, HE.out.2⟩
          simp [results, Try.results15, go_sem, g0, g1, g2, g3]
end Go.Proofs.Ytipiepcbgjceaaa
