/- What show's polText answers: a policy's text; policies that are well formed, of up to 600 nodes, numbers of 16 bits. -/
import Derived.Test.YtebpapmnkbehnaaDoorV3
import Derived.Test.YtebpapmnkbehnaaDoorK7
import Derived.Lib.QuietBelow
set_option linter.unusedVariables false
set_option linter.unusedSimpArgs false
namespace Go.Proofs.YtebpapmnkbehnaaDoor
open Go.RowKit Go.Joins Go.Lib Go.Sort

theorem node_field {parts op f n : Int} {kids : List Pl} (h : nodeB parts op f n kids = true) (ho : op = 2 ∨ op = 5) : kids = [] ∧ 0 ≤ f ∧ f < 8 := by
  rcases ho with rfl | rfl
  · have hb : nodeB parts 2 f n kids = (decide (kids.length = 0) && (decide (0 ≤ f) && decide (f < 8))) := by unfold nodeB; simp
    rw [hb] at h
    simp only [Bool.and_eq_true, decide_eq_true_eq] at h
    exact ⟨List.length_eq_zero_iff.1 h.1, h.2.1, h.2.2⟩
  · have hb : nodeB parts 5 f n kids = (decide (kids.length = 0) && (decide (1 ≤ f) && decide (f < 8))) := by unfold nodeB; simp
    rw [hb] at h
    simp only [Bool.and_eq_true, decide_eq_true_eq] at h
    exact ⟨List.length_eq_zero_iff.1 h.1, by omega, h.2.2⟩
theorem node_part {parts f n : Int} {kids : List Pl} (h : nodeB parts 3 f n kids = true) : kids = [] ∧ 0 ≤ f ∧ f < parts := by
  have hb : nodeB parts 3 f n kids = (decide (kids.length = 0) && (decide (0 ≤ f) && decide (f < parts))) := by unfold nodeB; simp
  rw [hb] at h
  simp only [Bool.and_eq_true, decide_eq_true_eq] at h
  exact ⟨List.length_eq_zero_iff.1 h.1, h.2.1, h.2.2⟩
theorem node_not {parts f n : Int} {kids : List Pl} (h : nodeB parts 4 f n kids = true) : ∃ k, kids = [k] := by
  have hb : nodeB parts 4 f n kids = (decide (kids.length = 1) && (decide (f = 0) && decide (n = 0)) && pred0 kids) := by unfold nodeB; simp
  rw [hb] at h
  simp only [Bool.and_eq_true, decide_eq_true_eq] at h
  exact List.length_eq_one_iff.1 h.1.1
theorem node_many {parts op f n : Int} {kids : List Pl} (h : nodeB parts op f n kids = true) (h0 : op ≠ 0) (h1 : op ≠ 1) (h2 : op ≠ 2) (h3 : op ≠ 3) (h4 : op ≠ 4) (h5 : op ≠ 5) : (op = 6 ∨ op = 7) ∧ 2 ≤ kids.length := by
  unfold nodeB at h
  rw [if_neg (by omega), if_neg h2, if_neg h3, if_neg h5, if_neg h4] at h
  split at h
  · rename_i h67
    simp only [Bool.and_eq_true, decide_eq_true_eq] at h
    exact ⟨h67, h.1⟩
  · cases h

set_option maxRecDepth 100000 in
set_option maxHeartbeats 8000000 in
theorem pol_text {P : Nat → Prop} (parts : Int) (hpa : parts ≤ 9) : ∀ (m : Nat) (T : Pl) (x : Nd) (w : World), sizeP T ≤ m → m ≤ 600 → formP parts T = true → okN T → PolAt P w T x → Es w → Calls Tryd.prog 15 #[nv x] w fun e w' => e = .returned (.string ⟨(textP T).toArray⟩) ∧ Below w.heap.size w w'
  | 0, T, x, w, h, _, _, _, _, _ => absurd (size_pos T) (by omega)
  | m + 1, .mk op f n kids, x, w, hs, hm, hf, hn, hp, hE => by
    obtain ⟨sa, sc, rfl, hk⟩ := hp.open
    rw [formP_mk, Bool.and_eq_true] at hf
    rw [okN] at hn
    rw [sizeP_mk] at hs
    have hl := len_le kids
    have HKC : Hid (∀ W, Below w.heap.size w W → ∀ k (hk : k < kids.length), KidC W sa kids k hk) := by
      intro W hW k hkl
      obtain ⟨b, off, sa2, n2, sc2, y0, y1, y2, e, hb, ha, hpk⟩ := hk k hkl
      have hsz := size_get kids k hkl
      have hlen := textP_len parts hpa m kids[k] (by omega) (form_get parts kids hf.2 k hkl) (okN_get kids hn.2 k hkl)
      refine ⟨⟨b, off, sa2, n2, sc2, y0, y1, y2, e, Nat.lt_of_lt_of_le hb hW.size, ha.same (hW.block b hb), hpk.shape.1, by omega, fun W' hW' => ?_⟩⟩
      have hWW : Below w.heap.size w W' := hW.trans (hW'.mono hW.size)
      exact pol_text parts hpa m kids[k] _ W' (by omega) (by omega) (form_get parts kids hf.2 k hkl) (okN_get kids hn.2 k hkl) (hpk.below hWW) (hE.below hWW)
    have hnode := hf.1
    obtain ⟨N, rfl⟩ := Int.eq_ofNat_of_zero_le hn.1.1
    have hN : N ≤ 65535 := by have := hn.1.2; omega
    have hb0 : Below w.heap.size w (w.alloc (pobj ⟨op, f, (N : Int), .slice sa kids.length sc⟩)) := (Below.refl _ w).alloc (Nat.le_refl _) _
    have HE0 : Hid (Es (w.alloc (pobj ⟨op, f, (N : Int), .slice sa kids.length sc⟩))) := hE.below hb0
    have HB0 : Hid _ := hb0
    have HH : Hid _ := hk
    clear hp hE hf hn hb0 hk
    rw [textP_mk]
    by_cases h0 : op = 0
    · subst h0
      rw [if_pos rfl]
      go_enter Tryd.func15, Tryd.ntmps15
      go_wp2
      go_ret
      exact ⟨rfl, HB0.out⟩
    rw [if_neg h0]
    by_cases h1 : op = 1
    · subst h1
      rw [if_pos rfl]
      go_enter Tryd.func15, Tryd.ntmps15
      go_wp2
      go_ret
      exact ⟨rfl, HB0.out⟩
    rw [if_neg h1]
    by_cases h2 : op = 2
    · subst h2
      rw [if_pos rfl]
      obtain ⟨-, hf0, hf8⟩ := node_field hnode (.inl rfl)
      have c := field_text f [61] N _ HE0.out hf0 hf8 hN (by decide)
      clear hnode h0 h1
      go_enter Tryd.func15, Tryd.ntmps15
      go_wp2_with fail
      refine c.mono ?_
      rintro e w1 ⟨rfl, hb1⟩
      have HB1 : Hid (Below w.heap.size w w1) := HB0.out.trans (hb1.mono HB0.out.size)
      clear hb1 c
      go_wp2
      go_ret
      exact ⟨rfl, HB1.out⟩
    rw [if_neg h2]
    by_cases h3 : op = 3
    · subst h3
      rw [if_pos rfl]
      obtain ⟨-, hf0, hfp⟩ := node_part hnode
      obtain ⟨F, rfl⟩ := Int.eq_ofNat_of_zero_le hf0
      have c := part_text F [61] N _ HE0.out (by omega) hN (by decide)
      clear hnode h0 h1 h2
      go_enter Tryd.func15, Tryd.ntmps15
      go_wp2_with fail
      refine c.mono ?_
      rintro e w1 ⟨rfl, hb1⟩
      have HB1 : Hid (Below w.heap.size w w1) := HB0.out.trans (hb1.mono HB0.out.size)
      clear hb1 c
      go_wp2
      go_ret
      exact ⟨rfl, HB1.out⟩
    rw [if_neg h3]
    by_cases h5 : op = 5
    · subst h5
      rw [if_pos rfl]
      obtain ⟨-, hf0, hf8⟩ := node_field hnode (.inr rfl)
      have c := field_text f [58, 61] N _ HE0.out hf0 hf8 hN (by decide)
      clear hnode h0 h1 h2 h3
      go_enter Tryd.func15, Tryd.ntmps15
      go_wp2_with fail
      refine c.mono ?_
      rintro e w1 ⟨rfl, hb1⟩
      have HB1 : Hid (Below w.heap.size w w1) := HB0.out.trans (hb1.mono HB0.out.size)
      clear hb1 c
      go_wp2
      go_ret
      exact ⟨rfl, HB1.out⟩
    rw [if_neg h5]
    by_cases h4 : op = 4
    · subst h4
      rw [if_pos rfl]
      obtain ⟨K, rfl⟩ := node_not hnode
      have e1 : joinS [] (textP.partsT 4 [K]) = wrapB (opW 4 K) (textP K) := by simp [textP.partsT, joinS]
      rw [e1]
      obtain ⟨W, hW⟩ : ∃ W, W = w.alloc (pobj ⟨4, f, (N : Int), .slice sa [K].length sc⟩) := ⟨_, rfl⟩
      have hrow : W.heap[w.heap.size]? = some (pobj ⟨4, f, (N : Int), .slice sa [K].length sc⟩) := by rw [hW]; exact heap_alloc_new w _
      have HBW : Hid (Below w.heap.size w W) := by rw [hW]; exact HB0
      obtain ⟨b, off, sa2, n2, sc2, y0, y1, y2, rfl, hb, ha, hop, hle, hc⟩ := (HKC.out W HBW.out 0 (by simp)).ex
      simp only [List.getElem_cons_zero] at hop hle hc
      obtain ⟨a0, a1, a2, a3⟩ := ha
      have hwl := wrapB_le (opW 4 K) (textP K)
      have c34 : Hid (∀ d os, Calls Tryd.prog 29 #[nv ⟨4, f, (N : Int), .slice (some ⟨b, off, none⟩) 1 sc⟩, nv ⟨y0, y1, y2, .slice sa2 n2 sc2⟩] (grow (redrawn W d) os) fun e w'' => e = .returned (.string ⟨(wrapB (opW 4 K) (textP K)).toArray⟩) ∧ ∃ p : Regrown, w'' = grow (redrawn W p.d) p.os) :=
        fun d os => Calls.regrown_of (kid_text 4 f N (some ⟨b, off, none⟩) 1 sc y0 y1 y2 sa2 n2 sc2 K hop (by omega) _ fun W' hW' => hc W' ((below_regrown W d os).trans (hW'.mono (below_regrown W d os).size)))
      generalize wrapB (opW 4 K) (textP K) = X at *
      have hXl : X.length ≤ 10002 := by omega
      simp only [List.length_singleton, Nat.zero_mul, Nat.add_zero] at a0 a1 a2 a3 hb hrow hW ⊢
      obtain ⟨q0, q1, q2, q3⟩ := row4 hrow
      clear hnode h0 h1 h2 h3 h5 hop hc e1 HKC HH hwl HE0 HB0 hrow
      go_enter Tryd.func15, Tryd.ntmps15
      go_wp2_with fail
      rw [← hW]
      clear hW
      have s0 := cell_regrown q0; have s1 := cell_regrown q1; have s2 := cell_regrown q2; have s3 := cell_regrown q3
      have t0 := cell_regrown a0; have t1 := cell_regrown a1; have t2 := cell_regrown a2; have t3 := cell_regrown a3
      clear q0 q1 q2 q3 a0 a1 a2 a3
      refine wp_region_quiet_below (by kernel_rfl) (by kernel_rfl) ?_
      repeat (go_big_quiet_step (first | (go_at_call 29; exact c34.out _ _)))
      refine wpQuiet_nil ?_
      intro _ hw'
      obtain ⟨⟨dq, osq⟩, hw''⟩ := hw'
      subst hw''
      have HBE : Hid (Below w.heap.size w (grow (redrawn W dq) osq)) := HBW.out.trans ((below_regrown W dq osq).mono HBW.out.size)
      clear s0 t0 s1 t1 s2 t2 s3 t3 c34 HBW
      generalize (grow (redrawn W dq) osq) = WE at *
      go_wp2
      go_ret
      exact ⟨by rw [not_str]; rfl, HBE.out⟩
    rw [if_neg h4]
    obtain ⟨h67, h2l⟩ := node_many hnode h0 h1 h2 h3 h4 h5
    have hlm : kids.length ≤ 100000 := by omega
    rcases h67 with rfl | rfl
    · have c := kids_text 6 f N sa sc kids (by omega) hlm [32, 59, 32] (by decide) _ (HKC.out _ HB0.out)
      have e1 : sepB 6 = [32, 59, 32] := rfl
      rw [e1]
      clear hnode h0 h1 h2 h3 h5 h4 HKC HH e1
      go_enter Tryd.func15, Tryd.ntmps15
      go_wp2_with fail
      refine c.mono ?_
      rintro e w1 ⟨rfl, hb1⟩
      have HB1 : Hid (Below w.heap.size w w1) := HB0.out.trans (hb1.mono HB0.out.size)
      clear hb1 c
      go_wp2
      go_ret
      exact ⟨rfl, HB1.out⟩
    · have c := kids_text 7 f N sa sc kids (by omega) hlm [32, 43, 32] (by decide) _ (HKC.out _ HB0.out)
      have e1 : sepB 7 = [32, 43, 32] := rfl
      rw [e1]
      clear hnode h0 h1 h2 h3 h5 h4 HKC HH e1
      go_enter Tryd.func15, Tryd.ntmps15
      go_wp2_with fail
      refine c.mono ?_
      rintro e w1 ⟨rfl, hb1⟩
      have HB1 : Hid (Below w.heap.size w w1) := HB0.out.trans (hb1.mono HB0.out.size)
      clear hb1 c
      go_wp2
      go_ret
      exact ⟨rfl, HB1.out⟩
end Go.Proofs.YtebpapmnkbehnaaDoor
