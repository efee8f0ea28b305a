/- What slices.BinarySearchFunc answers of pairs that rise, by byField; no conditions. -/
import Derived.Test.YtebpapmnkbehnaaGreatDoorA6
set_option linter.unusedVariables false
set_option linter.unusedSimpArgs false
namespace Go.Proofs.YtebpapmnkbehnaaGreatDoor
open Go.RowKit Go.Joins Go.Sort

/-- Rising, each once. -/
def Rises (l : List Pr) : Prop := ∀ i j (hi : i < l.length) (hj : j < l.length), i < j → l[i].1 < l[j].1
/-- How many are less. -/
def lessN (l : List Pr) (f : Int) : Nat := (l.takeWhile fun x => decide (x.1 < f)).length
theorem lessN_of : ∀ (l : List Pr) (f : Int) (k : Nat), k ≤ l.length → (∀ t (ht : t < l.length), t < k → l[t].1 < f) → (∀ t (ht : t < l.length), k ≤ t → f ≤ l[t].1) → lessN l f = k
  | [], f, k, hk, _, _ => by simp at hk; simp [lessN, hk]
  | x :: r, f, 0, hk, _, h2 => by
    have := h2 0 (by simp) (Nat.le_refl _)
    simp only [List.getElem_cons_zero] at this
    simp [lessN, List.takeWhile_cons, show ¬ x.1 < f by omega]
  | x :: r, f, k + 1, hk, h1, h2 => by
    have hx := h1 0 (by simp) (by omega)
    simp only [List.getElem_cons_zero] at hx
    have ih := lessN_of r f k (by simpa using hk) (fun t ht hlt => by have := h1 (t + 1) (by simpa using ht) (by omega); simpa using this) (fun t ht hlt => by have := h2 (t + 1) (by simpa using ht) (by omega); simpa using this)
    unfold lessN at ih ⊢
    simp [List.takeWhile_cons, hx, ih]

set_option maxRecDepth 100000 in
set_option maxHeartbeats 4000000 in
theorem search_any (l : List Pr) (c : Pr) (v : Value) (hr : Rises l) (hl : l.length ≤ 10000) (w : World) (hp : Prs w v l) :
    Calls Tryz.prog 106 #[v, cv c, .func (.func 107) #[] #[]] w fun e w' => ∃ k : Nat, e = .returned (.tuple #[.int .i64 (k : Int), .bool (hasF l c.1)]) ∧ Hid (k = lessN l c.1) ∧ Below w.heap.size w w' := by
  obtain ⟨sa, sc, rfl, hc⟩ := hp
  have HC : Hid (∀ k (hk : k < l.length), ∃ b off, sa = some ⟨b, off, none⟩ ∧ b < w.heap.size ∧ At2 w b (off + k * 2) l[k]) := hc
  have HR : Hid (Rises l) := hr
  clear hc hr
  go_enter Tryz.func106, Tryz.ntmps106
  go_wp2
  go_loopw [9, 10] (fun a b wr => ∃ lo hi : Nat, a = .int .i64 (lo : Int) ∧ b = .int .i64 (hi : Int) ∧ lo ≤ hi ∧ hi ≤ l.length ∧ Hid ((∀ t (ht : t < l.length), t < lo → l[t].1 < c.1) ∧ (∀ t (ht : t < l.length), hi ≤ t → c.1 ≤ l[t].1)) ∧ Hid (Below w.heap.size w wr) ∧ wr.heap[w.heap.size]? = some (cobj c)) (fun a b _ => (intOf b).toNat - (intOf a).toNat)
  case atStart => exact ⟨0, l.length, rfl, rfl, Nat.zero_le _, Nat.le_refl _, ⟨fun t _ h => by omega, fun t ht h => by omega⟩, (Below.refl _ w).alloc (Nat.le_refl _) _, heap_alloc_new w _⟩
  case round =>
    obtain ⟨lo, hi, rfl, rfl, h1, h2, HF, HB, hrow⟩ := hrel
    obtain ⟨q0, q1⟩ := row2 hrow
    by_cases hlt : lo < hi
    · obtain ⟨m, hm⟩ : ∃ m, (lo + hi) / 2 = m := ⟨_, rfl⟩
      have hml : m < l.length := by omega
      obtain ⟨b, off, rfl, hb, ha⟩ := HC.out m hml
      obtain ⟨a0, a1⟩ := ha.same (HB.out.block b hb)
      obtain ⟨y, hy⟩ : ∃ y, l[m] = y := ⟨_, rfl⟩
      rw [hy] at a0 a1
      have HY : Hid (l[m] = y) := hy
      have HM : Hid ((lo + hi) / 2 = m) := hm
      have em : ((lo : Int) + (hi : Int)) / 2 = (m : Int) := by omega
      have cB : Hid (∀ d os, Calls Tryz.prog 107 #[cv y, cv c] (grow (redrawn wr d) os) fun e w'' => e = .returned (.int .i64 (cmpI y.1 c.1)) ∧ ∃ p : Regrown, w'' = grow (redrawn wr p.d) p.os) := fun d os => Calls.regrown_of (byField_any y c _)
      have s0 := fun d os => cell_regrown q0 d os
      have s1 := fun d os => cell_regrown q1 d os
      have s2 := fun d os => cell_regrown a0 d os
      have s3 := fun d os => cell_regrown a1 d os
      have HRow : Hid (wr.heap[w.heap.size]? = some (cobj c)) := hrow
      clear hy hm q0 q1 a0 a1 hrow
      by_cases hyc : y.1 < c.1
      · have ec : cmpI y.1 c.1 = -1 := by unfold cmpI; rw [if_pos hyc]
        rw [ec] at cB
        clear ec
        go_wp2_with fail
        refine wp_region_quiet_below (by kernel_rfl) (by kernel_rfl) ?_
        repeat (go_big_quiet_step (first | (go_at_call 107; exact cB.out _ _)))
        refine wpQuiet_nil ?_
        intro _ hw'
        obtain ⟨⟨dq, osq⟩, hw''⟩ := hw'
        subst hw''
        have HBE : Hid (Below w.heap.size w (grow (redrawn wr dq) osq)) := HB.out.trans ((below_regrown wr dq osq).mono HB.out.size)
        have HRE : Hid ((grow (redrawn wr dq) osq).heap[w.heap.size]? = some (cobj c)) := ((below_regrown wr dq osq).block _ (heap_lt HRow.out)).trans HRow.out
        clear s0 s1 s2 s3 cB HB HRow
        generalize (grow (redrawn wr dq) osq) = WE at *
        go_wp2
        go_roundw
        case rel =>
          refine ⟨m + 1, hi, by go_num, rfl, by have := HM.out; omega, h2, ⟨fun t ht hlt2 => ?_, HF.out.2⟩, HBE, HRE.out⟩
          by_cases e : t = m
          · subst e; rw [HY.out]; exact hyc
          · have := HR.out t m ht hml (by omega)
            rw [HY.out] at this
            omega
        case measure => simp [intOf]; have := HM.out; omega
      · obtain ⟨z, ez, hz0⟩ : ∃ z, cmpI y.1 c.1 = z ∧ 0 ≤ z := ⟨_, rfl, by unfold cmpI; rw [if_neg hyc]; split <;> omega⟩
        rw [ez] at cB
        have dz : decide (z < 0) = false := by simp; omega
        clear ez
        go_wp2_with fail
        refine wp_region_quiet_below (by kernel_rfl) (by kernel_rfl) ?_
        repeat (go_big_quiet_step (first | (go_at_call 107; exact cB.out _ _)))
        refine wpQuiet_nil ?_
        intro _ hw'
        obtain ⟨⟨dq, osq⟩, hw''⟩ := hw'
        subst hw''
        have HBE : Hid (Below w.heap.size w (grow (redrawn wr dq) osq)) := HB.out.trans ((below_regrown wr dq osq).mono HB.out.size)
        have HRE : Hid ((grow (redrawn wr dq) osq).heap[w.heap.size]? = some (cobj c)) := ((below_regrown wr dq osq).block _ (heap_lt HRow.out)).trans HRow.out
        clear s0 s1 s2 s3 cB HB HRow
        generalize (grow (redrawn wr dq) osq) = WE at *
        go_wp2
        go_roundw
        case rel =>
          refine ⟨lo, m, rfl, rfl, by have := HM.out; omega, by omega, ⟨HF.out.1, fun t ht hlt2 => ?_⟩, HBE, HRE.out⟩
          by_cases e : t = m
          · subst e; rw [HY.out]; omega
          · have := HR.out m t hml ht (by omega)
            rw [HY.out] at this
            omega
        case measure => simp [intOf]; have := HM.out; omega
    · obtain rfl : lo = hi := by omega
      have HK : Hid (lessN l c.1 = lo) := lessN_of l c.1 lo h2 (fun t ht h => HF.out.1 t ht h) (fun t ht h => HF.out.2 t ht h)
      by_cases hln : lo < l.length
      · obtain ⟨b, off, rfl, hb, ha⟩ := HC.out lo hln
        obtain ⟨a0, a1⟩ := ha.same (HB.out.block b hb)
        obtain ⟨y, hy⟩ : ∃ y, l[lo] = y := ⟨_, rfl⟩
        rw [hy] at a0 a1
        have hyc := HF.out.2 lo hln (Nat.le_refl _)
        rw [hy] at hyc
        have HH : Hid (hasF l c.1 = (cmpI y.1 c.1 == 0)) := by
          show _ = _
          unfold hasF cmpI
          rw [if_neg (by omega)]
          by_cases e : y.1 = c.1
          · rw [if_neg (by omega)]
            rw [List.any_eq_true.2 ⟨l[lo], List.getElem_mem hln, by rw [hy]; simpa using e⟩]
            rfl
          · rw [if_pos (by omega)]
            rw [List.any_eq_false.2]
            · rfl
            · intro x hx
              obtain ⟨t, ht, rfl⟩ := List.getElem_of_mem hx
              simp only [decide_eq_true_eq]
              rcases Nat.lt_trichotomy t lo with h | h | h
              · have := HF.out.1 t ht h; omega
              · subst h; rw [hy]; exact e
              · have h4 := HR.out lo t hln ht h
                rw [hy] at h4
                omega
        have cB : Hid (∀ d os, Calls Tryz.prog 107 #[cv y, cv c] (grow (redrawn wr d) os) fun e w'' => e = .returned (.int .i64 (cmpI y.1 c.1)) ∧ ∃ p : Regrown, w'' = grow (redrawn wr p.d) p.os) := fun d os => Calls.regrown_of (byField_any y c _)
        have s0 := fun d os => cell_regrown q0 d os
        have s1 := fun d os => cell_regrown q1 d os
        have s2 := fun d os => cell_regrown a0 d os
        have s3 := fun d os => cell_regrown a1 d os
        have dn : decide ((lo : Int) < (l.length : Int)) = true := by simp; omega
        clear hy q0 q1 a0 a1 hrow hyc
        generalize cmpI y.1 c.1 = z at *
        go_wp2_with fail
        refine wp_region_quiet_below (by kernel_rfl) (by kernel_rfl) ?_
        repeat (go_big_quiet_step (first | (go_at_call 107; exact cB.out _ _)))
        refine wpQuiet_nil ?_
        intro _ hw'
        obtain ⟨⟨dq, osq⟩, hw''⟩ := hw'
        subst hw''
        have HBE : Hid (Below w.heap.size w (grow (redrawn wr dq) osq)) := HB.out.trans ((below_regrown wr dq osq).mono HB.out.size)
        clear s0 s1 s2 s3 cB HB
        generalize (grow (redrawn wr dq) osq) = WE at *
        go_wp2
        go_ret2
        exact ⟨lo, by rw [HH.out]; rfl, HK.out.symm, HBE.out⟩
      · have HH : Hid (hasF l c.1 = false) := by
          show _ = _
          unfold hasF
          rw [List.any_eq_false]
          intro x hx
          obtain ⟨t, ht, rfl⟩ := List.getElem_of_mem hx
          have := HF.out.1 t ht (by omega)
          simp only [decide_eq_true_eq]
          omega
        have dn : decide ((lo : Int) < (l.length : Int)) = false := by simp; omega
        clear q0 q1 hrow
        go_wp2_with fail
        refine wp_region_quiet_below (by kernel_rfl) (by kernel_rfl) ?_
        repeat (go_big_quiet_step (fail))
        refine wpQuiet_nil ?_
        intro _ hw'
        obtain ⟨⟨dq, osq⟩, hw''⟩ := hw'
        subst hw''
        have HBE : Hid (Below w.heap.size w (grow (redrawn wr dq) osq)) := HB.out.trans ((below_regrown wr dq osq).mono HB.out.size)
        clear HB
        generalize (grow (redrawn wr dq) osq) = WE at *
        go_wp2
        go_ret2
        exact ⟨lo, by rw [HH.out]; rfl, HK.out.symm, HBE.out⟩
end Go.Proofs.YtebpapmnkbehnaaGreatDoor
/- What slices.Insert answers of one pair at a list's end. -/
set_option linter.unusedVariables false
set_option linter.unusedSimpArgs false
namespace Go.Proofs.YtebpapmnkbehnaaGreatDoor
open Go.RowKit Go.Joins

theorem info55 : (Tryz.prog.info? 64).map (fun i => (i.zero, i.size, i.bytes)) = some (some (cv (0, 0)), 2, 16) := by kernel_rfl
theorem cell_new2 (w : World) (x : Pr) (g : Nat) (hg : w.heap.size = g) : ∀ j u, (enc2 x)[j]? = some u → (w.alloc (cobj x)).cell? ((⟨g, 0, none⟩ : Addr).add j) = some u := by
  subst hg
  exact cell_new3 w (enc2 x) 64

set_option maxRecDepth 100000 in
set_option maxHeartbeats 4000000 in
/-- One pair at the end. -/
theorem insert_end (l : List Pr) (c : Pr) (v : Value) (lo g : Nat) (hl : l.length ≤ 10000) (w : World) (ho : w.ownsRow lo 64 2 v l.length (flat2 l)) (hc : ∀ j u, (enc2 c)[j]? = some u → w.cell? ((⟨g, 0, none⟩ : Addr).add j) = some u) (hlo : lo ≤ w.heap.size) :
    Calls Tryz.prog 108 #[v, .int .i64 (l.length : Int), .slice (some ⟨g, 0, none⟩) 1 1] w fun e w' => ∃ v', e = .returned v' ∧ w'.ownsRow lo 64 2 v' (l ++ [c]).length (flat2 (l ++ [c])) ∧ w.grownBy w' v.ownBlock ∧ (v'.ownBlock = v.ownBlock ∨ v'.ownBlock = some w.heap.size) := by
  have HO : Hid (w.ownsRow lo 64 2 v l.length (flat2 l)) := ho
  have HC : Hid (∀ j u, (enc2 c)[j]? = some u → w.cell? ((⟨g, 0, none⟩ : Addr).add j) = some u) := hc
  obtain ⟨i0, hi, hz0, hz1, hz2⟩ := info_parts info55
  have h1 := enc2_one c
  clear hc
  rcases ho.2 with ⟨hv, hn⟩ | ⟨gb, cap, cur, hv, hB, hgg, hcap, hmax, hsz, htk⟩
  · subst hv
    have : l = [] := List.length_eq_zero_iff.1 hn
    subst this
    clear ho hn hl
    go_enter Tryz.func108, Tryz.ntmps108
    go_wp2_with (at_builtin; refine wpList_append_own_at _ rfl _ _ 46 rfl lo 64 i0 (cv (0, 0)) 2 16 Tryz.underlying46 hi hz0 hz1 hz2 rfl (by decide) _ _ _ rfl HO.out ⟨g, 0, none⟩ 1 1 (enc2 c) rfl rfl HC.out h1 (by unfold maxLen; decide) (by decide) hlo ?_; intro v4 w4 hown4 hgrow4 hnil4 hloc4)
    go_ret
    exact ⟨v4, rfl, by rw [show flat2 [c] = flat2 [] ++ enc2 c by simp [flat2]]; exact hown4, hgrow4, hloc4⟩
  · subst hv
    have hcx : cap ≤ 9223372036854775807 := by unfold maxLen at hmax; omega
    have HE : Hid ((l ++ [c]).length = l.length + 1 ∧ flat2 (l ++ [c]) = flat2 l ++ enc2 c) := ⟨by simp, by rw [flat2_append, flat2_one]⟩
    obtain ⟨L2, e2⟩ : ∃ L2, l ++ [c] = L2 := ⟨_, rfl⟩
    rw [e2] at HE ⊢
    clear ho hgg htk hsz hB hmax e2
    generalize hn : l.length = n at *
    clear hn
    go_enter Tryz.func108, Tryz.ntmps108
    go_wp2_with (at_builtin; refine wpList_append_own_at _ rfl _ _ 46 rfl lo 64 i0 (cv (0, 0)) 2 16 Tryz.underlying46 hi hz0 hz1 hz2 rfl (by decide) _ _ _ rfl HO.out ⟨g, 0, none⟩ 1 1 (enc2 c) rfl rfl HC.out h1 (by unfold maxLen; omega) (by omega) hlo ?_; intro v4 w4 hown4 hgrow4 hnil4 hloc4)
    all_goals
      go_ret
      exact ⟨v4, rfl, by rw [HE.out.1, HE.out.2]; exact hown4, hgrow4, hloc4⟩

end Go.Proofs.YtebpapmnkbehnaaGreatDoor
