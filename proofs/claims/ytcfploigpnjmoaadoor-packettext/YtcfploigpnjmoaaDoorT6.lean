/- What the document's Read answers, for every text of at most 1000 bytes. -/
import Derived.Test.YtcfploigpnjmoaaDoorT5
set_option linter.unusedVariables false
set_option linter.unusedSimpArgs false
namespace Go.Proofs.YtcfploigpnjmoaaDoor
open Go.RowKit Go.Joins Go.Sort

theorem rfield_b (x : List UInt8) (w : World) : Calls Tryd.prog 22 #[.string ⟨x.toArray⟩] w fun e w' => e = .returned (.int .i64 (docF x)) ∧ Below w.heap.size w w' :=
  (rfield_any x w).mono fun e w' ⟨he, hw⟩ => ⟨he, by rw [hw]; exact (Below.refl _ _).alloc (Nat.le_refl _) _⟩

/-- What stands in memory while the document's Read goes on. -/
structure RSt (w : World) (g : Nat) (cur : Array Value) (p : List Int) (m : List Bool) (wr : World) : Prop where
  b0 : wr.heap[w.heap.size]? = some (.cells #[.int .u16 0, .int .u16 0, .int .u16 0, .int .u16 0, .int .u16 0, .int .u16 0, .int .u16 0, .int .u16 0] 24)
  b1 : wr.heap[w.heap.size + 1]? = some (.cells (cellsP p) 24)
  b2 : wr.heap[w.heap.size + 1 + 1]? = some (.cells (cellsM m) 68)
  bg : wr.heap[g]? = some (.cells cur 9)
  bw : Below w.heap.size w wr
theorem RSt.below {w wr w' : World} {g : Nat} {cur : Array Value} {p : List Int} {m : List Bool} (h : RSt w g cur p m wr) (hb : Below wr.heap.size wr w') : RSt w g cur p m w' :=
  ⟨by rw [hb.block _ (heap_lt h.b0)]; exact h.b0, by rw [hb.block _ (heap_lt h.b1)]; exact h.b1, by rw [hb.block _ (heap_lt h.b2)]; exact h.b2, by rw [hb.block _ (heap_lt h.bg)]; exact h.bg, h.bw.trans (hb.mono h.bw.size)⟩
theorem RSt.met {w wr : World} {g : Nat} {cur : Array Value} {p : List Int} {m : List Bool} (h : RSt w g cur p m wr) (hg : w.heap.size + 1 + 1 < g) (f : Nat) : RSt w g cur p (m.set f true) (wr.setCell ⟨w.heap.size + 1 + 1, f, none⟩ (.bool true)) :=
  ⟨by rw [heap_setCell_other _ _ _ _ (by simp; omega)]; exact h.b0, by rw [heap_setCell_other _ _ _ _ (by simp)]; exact h.b1, cellsM_set h.b2 f true, by rw [heap_setCell_other _ _ _ _ (by simp; omega)]; exact h.bg, h.bw.setCell (p := ⟨w.heap.size + 1 + 1, f, none⟩) (by simp; omega) _⟩
theorem RSt.put {w wr : World} {g : Nat} {cur : Array Value} {p : List Int} {m : List Bool} (h : RSt w g cur p m wr) (hg : w.heap.size + 1 + 1 < g) (f : Nat) (x : Int) : RSt w g cur (p.set f x) m (wr.setCell ⟨w.heap.size + 1, f, none⟩ (.int .u16 x)) :=
  ⟨by rw [heap_setCell_other _ _ _ _ (by simp)]; exact h.b0, cellsP_set h.b1 f x, by rw [heap_setCell_other _ _ _ _ (by simp)]; exact h.b2, by rw [heap_setCell_other _ _ _ _ (by simp; omega)]; exact h.bg, h.bw.setCell (p := ⟨w.heap.size + 1, f, none⟩) (by simp) _⟩

/-- A list of texts that the call owns, as a slice and its cells. -/
theorem texts_form {w : World} {B : Nat} {v : Value} {L : List (List UInt8)} (h : w.ownsRow B 9 1 v L.length (L.map strV)) (hne : L ≠ []) :
    ∃ g cap cur, v = .slice (some ⟨g, 0, none⟩) L.length cap ∧ B ≤ g ∧ w.heap[g]? = some (.cells cur 9) ∧ ∀ i (hi : i < L.length), cur[i]? = some (strV L[i]) := by
  rcases h.2 with ⟨_, h0⟩ | ⟨g, cap, cur, hv, hB, hg, hcap, _, _, htk⟩
  · exact absurd (List.length_eq_zero_iff.1 h0) hne
  · refine ⟨g, cap, cur, hv, hB, hg, fun i hi => ?_⟩
    have : (cur.toList.take (L.length * 1))[i]? = (L.map strV)[i]? := by rw [htk]
    rw [List.getElem?_take_of_lt (by omega), Array.getElem?_toList] at this
    rw [this, List.getElem?_map, List.getElem?_eq_getElem hi]; rfl

theorem cell_far (w : World) (g f g2 o : Nat) (h : g2 ≠ g) {v : Value} : (w.setCell ⟨g, f, none⟩ v).cell? ⟨g2, o, none⟩ = w.cell? ⟨g2, o, none⟩ :=
  World.cell?_of_block (w := w) (heap_setCell_other w _ _ _ h)
theorem pairDoc_none (y : List UInt8) (h : ¬ (split 61 y).length = 2) : pairDoc y = none := by
  unfold pairDoc
  match hs : split 61 y with
  | [] => rfl
  | [a] => rfl
  | [a, b] => rw [hs] at h; exact absurd rfl h
  | a :: b :: c :: t => rfl
theorem split_len (c : UInt8) : ∀ l, (split c l).length ≤ l.length + 1
  | [] => by simp [split]
  | x :: r => by
    have ih := split_len c r
    rw [split_cons]
    split
    · simp; omega
    · split
      · simp
      · rename_i h t he
        rw [he] at ih
        simp at ih ⊢
        omega
theorem split_mem (c : UInt8) : ∀ l, ∀ y ∈ split c l, y.length ≤ l.length
  | [], y, hy => by simp [split] at hy; subst hy; simp
  | x :: r, y, hy => by
    have ih := split_mem c r
    rw [split_cons] at hy
    split at hy
    · rw [List.mem_cons] at hy
      rcases hy with rfl | hy
      · simp
      · have := ih y hy; simp; omega
    · split at hy
      · simp at hy; subst hy; simp
      · rename_i h t he
        rw [List.mem_cons] at hy
        rcases hy with rfl | hy
        · have := ih h (by rw [he]; exact List.mem_cons_self ..)
          simp; omega
        · have := ih y (by rw [he]; exact List.mem_cons_of_mem _ hy)
          simp; omega

set_option maxRecDepth 100000 in
set_option maxHeartbeats 1000000 in
theorem rread_any (x : List UInt8) (hx : x.length ≤ 1000) (w : World) :
    Calls Tryd.prog 21 #[.string ⟨x.toArray⟩] w fun e w' => e = .returned (.tuple #[pkl ((rw1 (split 32 x) zero8 none8).getD zero8), .bool (rw1 (split 32 x) zero8 none8).isSome]) ∧ Below w.heap.size w w' := by
  go_enter Tryd.func21, Tryd.ntmps21
  go_wp2_with fail
  refine (rsplit_any x hx 32 32 rfl _).mono ?_
  rintro e w1 ⟨v, rfl, hown, hb1⟩
  obtain ⟨g, cap, cur, rfl, hg, hgg, hcur⟩ := texts_form hown (split_ne 32 x)
  have hlenW := split_len 32 x
  have hwlen := split_mem 32 x
  have hR0 : Hid (RSt w g cur zero8 none8 w1) := by
    have hb0 : Below w.heap.size w w1 := (((Below.refl _ w).alloc (Nat.le_refl _) _).alloc (by simp) _).alloc (by simp; omega) _ |>.trans (hb1.mono (by simp; omega))
    refine ⟨?_, ?_, ?_, hgg, hb0⟩
    · rw [hb1.block _ (by simp; omega), Below.heap_alloc _ _ _ (by simp; omega), Below.heap_alloc _ _ _ (by simp)]; exact heap_alloc_new _ _
    · rw [hb1.block _ (by simp), Below.heap_alloc _ _ _ (by simp)]; exact heap_alloc2_new w _ _
    · rw [hb1.block _ (by simp)]; exact heap_alloc3_new w _ _ _
  have hgB : w.heap.size + 1 + 1 < g := by simp at hg; omega
  have HRW : Hid (rw1 (split 32 x) zero8 none8 = rw1 (split 32 x) zero8 none8) := rfl
  generalize hWS : split 32 x = WS at *
  clear hown hb1 hgg hg
  go_wp2_with fail
  go_loopw [7] (fun i wr => ∃ (k : Nat) (p : List Int) (m : List Bool), i = .int .i64 k ∧ k ≤ WS.length ∧ p.length = 8 ∧ m.length = 8 ∧ Hid (rw1 WS zero8 none8 = rw1 (WS.drop k) p m) ∧ Hid (RSt w g cur p m wr)) (fun i _ => WS.length - (intOf i).toNat)
  case atStart => exact ⟨0, zero8, none8, rfl, Nat.zero_le _, rfl, rfl, rfl, hR0⟩
  case round =>
    obtain ⟨k, p, m, rfl, hk, hp, hm, HR, HS⟩ := hrel
    by_cases hlt : k < WS.length
    · have hcell : wr.cell? ⟨g, k, none⟩ = some (.string ⟨(WS[k]).toArray⟩) := by
        rw [cell_of_row _ _ _ _ _ _ HS.out.bg]; exact hcur k hlt
      have hdrop : WS.drop k = WS[k] :: WS.drop (k + 1) := List.drop_eq_getElem_cons hlt
      have hR1 : Hid (rw1 WS zero8 none8 = if WS[k] = [] then rw1 (WS.drop (k + 1)) p m else match pairDoc WS[k] with
        | none => none
        | some (f, x) => if m.getD f false = true then none else rw1 (WS.drop (k + 1)) (p.set f x) (m.set f true)) := by
        show _ = _
        rw [HR.out, hdrop, rw1]
        rfl
      have hwl := hwlen WS[k] (List.getElem_mem hlt)
      clear HR hdrop hcur hwlen
      generalize hY : WS[k] = y at *
      clear hY
      by_cases hye : y = []
      · subst hye
        have hR2 : Hid (rw1 WS zero8 none8 = rw1 (WS.drop (k + 1)) p m) := by show _ = _; rw [hR1.out, if_pos rfl]
        clear hR1
        go_wp2
        go_roundw
        case rel => exact ⟨k + 1, p, m, by go_num, by omega, hp, hm, hR2, HS⟩
        case measure => simp [intOf]; omega
      · have hyb : y.isEmpty = false := by cases y <;> simp_all
        have hR2 : Hid (rw1 WS zero8 none8 = match pairDoc y with
          | none => none
          | some (f, x) => if m.getD f false = true then none else rw1 (WS.drop (k + 1)) (p.set f x) (m.set f true)) := by
          show _ = _
          rw [hR1.out, if_neg hye]
        clear hR1 hye
        go_wp2_with fail
        refine (rsplit_any y (by omega) 61 61 rfl _).mono ?_
        rintro e w2 ⟨v2, rfl, hown2, hb2⟩
        obtain ⟨g2, cap2, cur2, rfl, hg2, hgg2, hcur2⟩ := texts_form hown2 (split_ne 61 y)
        have hS2 : Hid (RSt w g cur p m w2) := HS.out.below hb2
        have hg2lt : w.heap.size + 1 + 1 < g2 := by have := heap_lt HS.out.b2; omega
        clear hown2 hb2 HS
        by_cases h2 : (split 61 y).length = 2
        · obtain ⟨a, b, hab⟩ : ∃ a b, split 61 y = [a, b] := by
            match hs : split 61 y, h2 with
            | [a, b], _ => exact ⟨a, b, rfl⟩
          have hsm := split_mem 61 y
          rw [hab] at hcur2 hsm
          have hal : a.length ≤ 1000 := by have := hsm a (by simp); omega
          have hbl : b.length ≤ 1000 := by have := hsm b (by simp); omega
          have ca : cur2[0]? = some (.string ⟨a.toArray⟩) := hcur2 0 (by simp)
          have cb : cur2[1]? = some (.string ⟨b.toArray⟩) := hcur2 1 (by simp)
          have hlen2 : (split 61 y).length = 2 := h2
          rw [hlen2]
          have hpd : pairDoc y = match fieldOf a, numDoc b with | some f, some n => some (f, n) | _, _ => none := by unfold pairDoc; rw [hab]; rfl
          rw [hpd] at hR2
          clear hpd hcur2 hsm hlen2 h2 hab hcell hyb
          have k0 : w2.cell? ⟨g2, 0, none⟩ = some (.string ⟨a.toArray⟩) := by rw [cell_of_row _ _ _ _ _ _ hgg2]; exact ca
          have k1 : w2.cell? ⟨g2, 1, none⟩ = some (.string ⟨b.toArray⟩) := by rw [cell_of_row _ _ _ _ _ _ hgg2]; exact cb
          have k0w2 := k0
          have k1w2 := k1
          clear k0 k1 hgg2 ca cb
          cases hfa : fieldOf a with
          | none =>
            have HF : Hid (∀ w : World, Calls Tryd.prog 22 #[.string ⟨a.toArray⟩] w fun e w' => e = .returned (.int .i64 (-1)) ∧ Below w.heap.size w w') := fun w => by
              have := rfield_b a w
              rw [docF, hfa] at this
              exact this
            have HN : Hid (rw1 WS zero8 none8 = none) := by
              show _ = _
              rw [hR2.out, hfa]
            clear hR2 hfa
            go_wp2_with fail
            refine (HF.out _).mono ?_
            rintro e w3 ⟨rfl, hbw3⟩
            have hS3 : Hid (RSt w g cur p m w3) := hS2.out.below hbw3
            have k0w3 : w3.cell? ⟨g2, 0, none⟩ = some (.string ⟨a.toArray⟩) := by rw [hbw3.cell (p := ⟨g2, 0, none⟩) (block_lt_of_cell k0w2)]; exact k0w2
            have k1w3 : w3.cell? ⟨g2, 1, none⟩ = some (.string ⟨b.toArray⟩) := by rw [hbw3.cell (p := ⟨g2, 1, none⟩) (block_lt_of_cell k1w2)]; exact k1w2
            clear hbw3
            obtain ⟨⟨g0, g1', g2', g3, g4, g5, g6, g7⟩, ⟨f0, f1, f2, f3, f4, f5, f6, f7⟩, _⟩ := row8 hS3.out.b0
            go_wp2
            refine bodyPost_ret (v := .tuple #[pk 0 0 0 0 0 0 0 0, .bool false]) ?_ rfl ⟨?_, below8 hS3.out.bw (by omega) _ _ _ _ _ _ _ _⟩
            · obtain ⟨⟨h0, h1, h2, h3, h4, h5, h6, h7⟩, _, _⟩ := row8 (set8 (.int .u16 0) (.int .u16 0) (.int .u16 0) (.int .u16 0) (.int .u16 0) (.int .u16 0) (.int .u16 0) (.int .u16 0) hS3.out.b0)
              simp [results, Tryd.results21, go_sem, h0, h1, h2, h3, h4, h5, h6, h7]
            · rw [hWS, HN.out]; rfl
          | some f =>
            have hf8 : f < 8 := by
              unfold fieldOf at hfa
              rw [List.findIdx?_eq_some_iff_getElem] at hfa
              exact hfa.1
            have HF : Hid (∀ w : World, Calls Tryd.prog 22 #[.string ⟨a.toArray⟩] w fun e w' => e = .returned (.int .i64 f) ∧ Below w.heap.size w w') := fun w => by
              have := rfield_b a w
              rw [docF, hfa] at this
              exact this
            rw [hfa] at hR2
            clear hfa
            go_wp2_with fail
            refine (HF.out _).mono ?_
            rintro e w3 ⟨rfl, hbw3⟩
            have hS3 : Hid (RSt w g cur p m w3) := hS2.out.below hbw3
            have k0w3 : w3.cell? ⟨g2, 0, none⟩ = some (.string ⟨a.toArray⟩) := by rw [hbw3.cell (p := ⟨g2, 0, none⟩) (block_lt_of_cell k0w2)]; exact k0w2
            have k1w3 : w3.cell? ⟨g2, 1, none⟩ = some (.string ⟨b.toArray⟩) := by rw [hbw3.cell (p := ⟨g2, 1, none⟩) (block_lt_of_cell k1w2)]; exact k1w2
            clear hbw3
            go_wp2_with fail
            refine (HF.out _).mono ?_
            rintro e w4 ⟨rfl, hbw4⟩
            have hS4 : Hid (RSt w g cur p m w4) := hS3.out.below hbw4
            have k0w4 : w4.cell? ⟨g2, 0, none⟩ = some (.string ⟨a.toArray⟩) := by rw [hbw4.cell (p := ⟨g2, 0, none⟩) (block_lt_of_cell k0w3)]; exact k0w3
            have k1w4 : w4.cell? ⟨g2, 1, none⟩ = some (.string ⟨b.toArray⟩) := by rw [hbw4.cell (p := ⟨g2, 1, none⟩) (block_lt_of_cell k1w3)]; exact k1w3
            clear hbw4
            have hmf := cellsM_at hS4.out.b2 f (by omega)
            cases hmv : m.getD f false with
            | true =>
              have HN : Hid (rw1 WS zero8 none8 = none) := by
                show _ = _
                rw [hR2.out]
                cases numDoc b with
                | none => rfl
                | some n => simp only [hmv]; rfl
              rw [hmv] at hmf
              clear hR2 hmv
              obtain ⟨⟨g0, g1', g2', g3, g4, g5, g6, g7⟩, ⟨f0, f1, f2, f3, f4, f5, f6, f7⟩, _⟩ := row8 hS4.out.b0
              go_wp2
              refine bodyPost_ret (v := .tuple #[pk 0 0 0 0 0 0 0 0, .bool false]) ?_ rfl ⟨?_, below8 hS4.out.bw (by omega) _ _ _ _ _ _ _ _⟩
              · obtain ⟨⟨h0, h1, h2, h3, h4, h5, h6, h7⟩, _, _⟩ := row8 (set8 (.int .u16 0) (.int .u16 0) (.int .u16 0) (.int .u16 0) (.int .u16 0) (.int .u16 0) (.int .u16 0) (.int .u16 0) hS4.out.b0)
                simp [results, Tryd.results21, go_sem, h0, h1, h2, h3, h4, h5, h6, h7]
              · rw [hWS, HN.out]; rfl
            | false =>
              rw [hmv] at hmf
              cases hnb : numDoc b with
              | none =>
                have HN : Hid (rw1 WS zero8 none8 = none) := by
                  show _ = _
                  rw [hR2.out, hnb]
                have HNU : Hid (∀ w : World, Calls Tryd.prog 37 #[.string ⟨b.toArray⟩] w fun e w' => e = .returned (.int .i64 (-1)) ∧ w' = w) := fun w => by
                  have := rnumber_any b hbl w
                  rw [docN, hnb] at this
                  exact this
                clear hR2 hmv hnb
                obtain ⟨⟨g0, g1', g2', g3, g4, g5, g6, g7⟩, ⟨f0, f1, f2, f3, f4, f5, f6, f7⟩, _⟩ := row8 hS4.out.b0
                go_wp2_with fail
                refine (HNU.out _).mono ?_
                rintro e w5 ⟨rfl, rfl⟩
                go_wp2
                refine bodyPost_ret (v := .tuple #[pk 0 0 0 0 0 0 0 0, .bool false]) ?_ rfl ⟨?_, below8 hS4.out.bw (by omega) _ _ _ _ _ _ _ _⟩
                · obtain ⟨⟨h0, h1, h2, h3, h4, h5, h6, h7⟩, _, _⟩ := row8 (set8 (.int .u16 0) (.int .u16 0) (.int .u16 0) (.int .u16 0) (.int .u16 0) (.int .u16 0) (.int .u16 0) (.int .u16 0) hS4.out.b0)
                  simp [results, Tryd.results21, go_sem, h0, h1, h2, h3, h4, h5, h6, h7]
                · rw [hWS, HN.out]; rfl
              | some n =>
                have hn16 : n ≤ 65535 := by
                  unfold numDoc at hnb
                  split at hnb
                  · cases hnb
                  · rename_i hc
                    injection hnb with hnb
                    subst hnb
                    exact Nat.le_of_not_lt fun e => hc (.inr (.inr (.inr e)))
                have HNU : Hid (∀ w : World, Calls Tryd.prog 37 #[.string ⟨b.toArray⟩] w fun e w' => e = .returned (.int .i64 n) ∧ w' = w) := fun w => by
                  have := rnumber_any b hbl w
                  rw [docN, hnb] at this
                  exact this
                have HR3 : Hid (rw1 WS zero8 none8 = rw1 (WS.drop (k + 1)) (p.set f n) (m.set f true)) := by
                  show _ = _
                  rw [hR2.out, hnb]
                  simp only [hmv]
                  rfl
                clear hR2 hmv hnb
                go_wp2_with fail
                refine (HNU.out _).mono ?_
                rintro e w5 ⟨rfl, rfl⟩
                go_wp2_with fail
                refine (HF.out _).mono ?_
                rintro e w6 ⟨rfl, hbw6⟩
                have hS6 : Hid (RSt w g cur p m w6) := hS4.out.below hbw6
                have k0w6 : w6.cell? ⟨g2, 0, none⟩ = some (.string ⟨a.toArray⟩) := by rw [hbw6.cell (p := ⟨g2, 0, none⟩) (block_lt_of_cell k0w4)]; exact k0w4
                have k1w6 : w6.cell? ⟨g2, 1, none⟩ = some (.string ⟨b.toArray⟩) := by rw [hbw6.cell (p := ⟨g2, 1, none⟩) (block_lt_of_cell k1w4)]; exact k1w4
                clear hbw6
                have hm6 := cellsM_at hS6.out.b2 f (by omega)
                have hz6 := frozen_of_row w6 (w.heap.size + 1 + 1) f _ _ hS6.out.b2
                clear hmf
                go_wp2
                have hS7 : Hid (RSt w g cur p (m.set f true) (w6.setCell ⟨w.heap.size + 1 + 1, f, none⟩ (.bool true))) := hS6.out.met hgB f
                have j0 : (w6.setCell ⟨w.heap.size + 1 + 1, f, none⟩ (.bool true)).cell? ⟨g2, 0, none⟩ = some (.string ⟨a.toArray⟩) := by
                  rw [cell_far _ _ _ _ _ (by omega)]; exact k0w6
                have j1 : (w6.setCell ⟨w.heap.size + 1 + 1, f, none⟩ (.bool true)).cell? ⟨g2, 1, none⟩ = some (.string ⟨b.toArray⟩) := by
                  rw [cell_far _ _ _ _ _ (by omega)]; exact k1w6
                clear hm6 hz6 hS6 k0w6 k1w6 k0w4 k1w4 k0w3 k1w3 k0w2 k1w2 hS2 hS3 hS4
                generalize (w6.setCell ⟨w.heap.size + 1 + 1, f, none⟩ (.bool true)) = W7 at *
                have p7 := cellsP_at hS7.out.b1 f (by omega)
                have z7 := frozen_of_row W7 (w.heap.size + 1) f _ _ hS7.out.b1
                have hlt7 := block_lt_of_cell j1
                have e16 : IntKind.u16.wrap (n : Int) = (n : Int) := wr16 _ (by omega) (by omega)
                have hf0 : (0 : Int) ≤ (f : Int) := by omega
                have hf8' : (f : Int) < 8 := by omega
                go_region_with (first
                  | (go_at_call 22; refine (HF.out _).mono ?_; rintro e wX ⟨rfl, hbX⟩; have hSX : Hid (RSt w g cur p (m.set f true) wX) := hS7.out.below ((Below.refl _ W7).drew.trans hbX); have jX := (hbX.cell (p := ⟨g2, 1, none⟩) hlt7).trans j1; have pX := cellsP_at hSX.out.b1 f (Nat.lt_of_lt_of_eq hf8 hp.symm); have zX := frozen_of_row wX (w.heap.size + 1) f _ _ hSX.out.b1)
                  | (go_at_call 37; refine (HNU.out _).mono ?_; rintro e wY ⟨rfl, hYY⟩; subst wY))
                all_goals
                  have hS9 : Hid (RSt w g cur (p.set f n) (m.set f true) (wX.setCell ⟨w.heap.size + 1, f, none⟩ (.int .u16 n))) := hSX.out.put hgB f n
                  clear pX zX jX hSX hbX
                  go_wp2
                  go_roundw
                  case rel => exact ⟨k + 1, p.set f n, m.set f true, by go_num, by omega, by simpa using hp, by simpa using hm, HR3, hS9⟩
                  case measure => simp [intOf]; omega
        · have hn2 : (((split 61 y).length : Int) != 2) = true := by simp; omega
          have HN : Hid (rw1 WS zero8 none8 = none) := by
            show _ = _
            rw [hR2.out, pairDoc_none y h2]
          clear hR2 hcur2 hgg2 hcell
          generalize (split 61 y).length = n2 at *
          obtain ⟨⟨g0, g1', g2', g3, g4, g5, g6, g7⟩, ⟨f0, f1, f2, f3, f4, f5, f6, f7⟩, _⟩ := row8 hS2.out.b0
          go_wp2
          refine bodyPost_ret (v := .tuple #[pk 0 0 0 0 0 0 0 0, .bool false]) ?_ rfl ⟨?_, below8 hS2.out.bw (by omega) _ _ _ _ _ _ _ _⟩
          · obtain ⟨⟨h0, h1, h2, h3, h4, h5, h6, h7⟩, _, _⟩ := row8 (set8 (.int .u16 0) (.int .u16 0) (.int .u16 0) (.int .u16 0) (.int .u16 0) (.int .u16 0) (.int .u16 0) (.int .u16 0) hS2.out.b0)
            simp [results, Tryd.results21, go_sem, h0, h1, h2, h3, h4, h5, h6, h7]
          · rw [hWS, HN.out]; rfl
    · have hkl : k = WS.length := by omega
      subst hkl
      have hR3 : Hid (rw1 WS zero8 none8 = some p) := by
        show _ = _
        rw [HR.out, List.drop_length, rw1]
      clear HR
      obtain ⟨b0, b1, b2, b3, b4, b5, b6, b7, rfl⟩ := eight hp
      have hb1 := HS.out.b1
      simp only [cellsP, List.map_cons, List.map_nil] at hb1
      obtain ⟨⟨q0, q1, q2, q3, q4, q5, q6, q7⟩, _, hsz⟩ := row8 hb1
      obtain ⟨⟨g0, g1, g2, g3, g4, g5, g6, g7⟩, ⟨f0, f1, f2, f3, f4, f5, f6, f7⟩, _⟩ := row8 HS.out.b0
      clear hb1 hcur hwlen
      go_wp2
      refine bodyPost_ret (v := .tuple #[pk b0 b1 b2 b3 b4 b5 b6 b7, .bool true]) ?_ rfl ⟨?_, below8 HS.out.bw (by omega) _ _ _ _ _ _ _ _⟩
      · obtain ⟨⟨h0, h1, h2, h3, h4, h5, h6, h7⟩, _, _⟩ := row8 (set8 (.int .u16 b0) (.int .u16 b1) (.int .u16 b2) (.int .u16 b3) (.int .u16 b4) (.int .u16 b5) (.int .u16 b6) (.int .u16 b7) HS.out.b0)
        simp [results, Tryd.results21, go_sem, h0, h1, h2, h3, h4, h5, h6, h7]
      · rw [hWS, hR3.out]; rfl
end Go.Proofs.YtcfploigpnjmoaaDoor
