/- What the law SyntaxLong answers: true; no conditions but what the row lists. -/
import Derived.Test.YtipjmabeenhcgaaGreatDoorS1
set_option linter.unusedVariables false
set_option linter.unusedSimpArgs false
namespace Go.Proofs.YtipjmabeenhcgaaGreatDoor
open Go.RowKit Go.Joins

/-- Nots one within another. -/
def notN : Nat → Pl
  | 0 => .mk 1 0 0 []
  | k + 1 => .mk 4 0 0 [notN k]
theorem notN_size : ∀ k, sizeP (notN k) = k + 1
  | 0 => by rw [notN, sizeP_mk]; rfl
  | k + 1 => by rw [notN, sizeP_mk, sizeP.sizeL, sizeP.sizeL, notN_size k]
theorem notN_depth : ∀ k, depthP (notN k) = k + 1
  | 0 => by rw [notN, depthP_mk]; rfl
  | k + 1 => by rw [notN, depthP_mk, depthP.depthL, depthP.depthL, notN_depth k]; omega
theorem notN_pred : ∀ k, predP (notN k) = true
  | 0 => by rw [notN, predP_mk]; rfl
  | k + 1 => by rw [notN, predP_mk]; rfl
theorem notN_form : ∀ k, formP 1 (notN k) = true
  | 0 => by rw [notN, formP_mk]; rfl
  | k + 1 => by
    rw [notN, formP_mk, formP.formL, formP.formL, notN_form k]
    have : nodeB 1 4 0 0 [notN k] = pred0 [notN k] := by unfold nodeB; simp
    rw [this]
    show (predP (notN k) && _) = true
    rw [notN_pred k]; rfl
theorem notN_check (k : Nat) : checkM ⟨[0], notN k, []⟩ = if k < 20 then 0 else 2 := by
  unfold checkM longB
  have h1 := notN_size k
  have h2 := notN_depth k
  have h3 := notN_form k
  by_cases hk : k < 20
  · have e1 : ¬ 300 < k + 1 := by omega
    have e2 : ¬ 20 < k + 1 := by omega
    simp [h1, h2, h3, hk, e1, e2]
  · have e2 : 20 < k + 1 := by omega
    simp [h1, h2, hk, e2]
/-- Ids one behind another. -/
def idsN (n : Nat) : List Pl := List.replicate n (.mk 1 0 0 [])
theorem idsN_succ (n : Nat) : idsN (n + 1) = idsN n ++ [.mk 1 0 0 []] := by unfold idsN; rw [List.replicate_succ']
theorem idsN_size : ∀ n, sizeP.sizeL (idsN n) = n
  | 0 => rfl
  | n + 1 => by rw [idsN_succ, sizeL_app, idsN_size n]; simp [sizeP.sizeL, sizeP_mk]
theorem idsN_depth : ∀ n, depthP.depthL (idsN n) ≤ 1
  | 0 => by simp [idsN, depthP.depthL]
  | n + 1 => by have := idsN_depth n; rw [idsN_succ, depthL_app]; simp [depthP.depthL, depthP_mk]; omega
theorem idsN_form : ∀ n, formP.formL 1 (idsN n) = true
  | 0 => by simp [idsN, formP.formL]
  | n + 1 => by
    rw [idsN_succ, formL_app, idsN_form n]
    rfl
theorem idsN_len (n : Nat) : (idsN n).length = n := by simp [idsN]
theorem idsN_check (n : Nat) (hn : 2 ≤ n) : checkM ⟨[0], .mk 6 0 0 (idsN n), []⟩ = if n < 300 then 0 else 2 := by
  unfold checkM longB
  have h1 : sizeP (.mk 6 0 0 (idsN n)) = n + 1 := by rw [sizeP_mk, idsN_size]
  have h2 := idsN_depth n
  have h3 : formP 1 (.mk 6 0 0 (idsN n)) = true := by
    rw [formP_mk, idsN_form n]
    have : nodeB 1 6 0 0 (idsN n) = decide (2 ≤ (idsN n).length) := by unfold nodeB; simp
    rw [this, idsN_len, decide_eq_true hn]; rfl
  have h4 : ¬ 20 < depthP (.mk 6 0 0 (idsN n)) := by rw [depthP_mk]; omega
  by_cases hk : n < 300
  · have e1 : ¬ 300 < n + 1 := by omega
    simp [h1, h3, h4, hk, e1]
  · have e2 : 300 < n + 1 := by omega
    simp [h1, hk, e2]
theorem long_short (p : Pl) (hs : sizeP p ≤ 1000) : PgShort ⟨[0], p, []⟩ := ⟨by simp, by show sizeP p ≤ _; omega, by simp, fun r hr => by cases hr⟩
theorem rules_nil (P : Nat → Prop) (w : World) : RulesAt P w (.slice none 0 0) [] := ⟨none, 0, rfl, fun k hk => by simp at hk⟩
/-- One Not more, in the same cells. -/
theorem not_more {w wr : World} {g : Nat} {T : Pl} {x : Nd} (hp : PolAt (fun b => g < b) wr T x) (hg : g < wr.heap.size) (y0 y1 y2 y3 : Value) :
    PolAt (fun b => g < b) (((((wr.setCell ⟨g, 0, none⟩ y0).setCell ⟨g, 1, none⟩ y1).setCell ⟨g, 2, none⟩ y2).setCell ⟨g, 3, none⟩ y3).alloc (pobj x)) (.mk 4 0 0 [T]) ⟨4, 0, 0, .slice (some ⟨wr.heap.size, 0, none⟩) 1 1⟩ := by
  have hn : ¬ g < g := by omega
  have h1 := (((hp.set (a := ⟨g, 0, none⟩) hn y0).set (a := ⟨g, 1, none⟩) hn y1).set (a := ⟨g, 2, none⟩) hn y2).set (a := ⟨g, 3, none⟩) hn y3
  have e : ((((wr.setCell ⟨g, 0, none⟩ y0).setCell ⟨g, 1, none⟩ y1).setCell ⟨g, 2, none⟩ y2).setCell ⟨g, 3, none⟩ y3).heap.size = wr.heap.size := by simp [World.setCell]
  have h2 := pol_not (g + 1) (by rw [e]; omega) (h1.mono fun b hb _ => by have hb : g < b := hb; show g + 1 ≤ b; omega)
  rw [e] at h2
  exact h2.mono fun b hb _ => by have hb : g + 1 ≤ b := hb; show g < b; omega

abbrev idNd : Nd := ⟨1, 0, 0, .slice none 0 0⟩
theorem ids_pols (P : Nat → Prop) (w : World) : ∀ k, PolsAt P w (idsN k) (List.replicate k idNd)
  | 0 => ⟨rfl, fun i h => by simp [idsN] at h⟩
  | k + 1 => by
    rw [idsN_succ, List.replicate_succ']
    exact (ids_pols P w k).snoc (PolAt.leaf _ _ _ _ _)
theorem row_set4 {W : World} {g : Nat} {x0 x1 x2 x3 : Value} (y0 y1 y2 y3 : Value) (o : Obj) (hr : W.heap[g]? = some (.cells #[x0, x1, x2, x3] 29)) : (((((W.setCell ⟨g, 0, none⟩ y0).setCell ⟨g, 1, none⟩ y1).setCell ⟨g, 2, none⟩ y2).setCell ⟨g, 3, none⟩ y3).alloc o).heap[g]? = some (.cells #[y0, y1, y2, y3] 29) := by
  rw [Below.heap_alloc _ _ _ (by simpa [World.setCell] using heap_lt hr)]
  exact set4 y0 y1 y2 y3 hr
/-- What stands while ids are put one behind another. -/
structure WSt (w w1 w2 : World) (deep k : Nat) (x : Nd) (v : Value) (wr : World) : Prop where
  own : wr.ownsRow w2.heap.size 29 4 v k (flat4 (List.replicate k idNd))
  row : wr.heap[w1.heap.size]? = some (pobj x)
  pol : PolAt (fun b => w1.heap.size < b ∧ b < w2.heap.size) wr (notN deep) x
  bel : Below w.heap.size w wr
  siz : w2.heap.size ≤ wr.heap.size
theorem WSt.app {w w1 w2 : World} {deep k : Nat} {x : Nd} {v v' : Value} {wr w4 : World} (h : WSt w w1 w2 deep k x v wr) (h1 : w1.heap.size < w2.heap.size) (h0 : w.heap.size ≤ w1.heap.size) (ho : w4.ownsRow w2.heap.size 29 4 v' (k + 1) (flat4 (List.replicate k idNd) ++ enc4 idNd)) (hgr : (wr.alloc (pobj idNd)).grownBy w4 v.ownBlock) : WSt w w1 w2 deep (k + 1) x v' w4 := by
  have sa : (wr.alloc (pobj idNd)).heap.size = wr.heap.size + 1 := by simp
  have hs := h.siz
  have hvlt : ∀ j, v.ownBlock = some j → w2.heap.size ≤ j ∧ j < wr.heap.size := fun j hj => h.own.lt j hj
  have kb : ∀ b, b < wr.heap.size → some b ≠ v.ownBlock → w4.heap[b]? = wr.heap[b]? := fun b hb hn => (hgr.block b (by omega) hn).trans (Below.heap_alloc _ _ _ hb)
  have hnb : ∀ b, b < w2.heap.size → some b ≠ v.ownBlock := fun b hb e => by have := (hvlt b e.symm).1; omega
  have hsz : wr.heap.size ≤ w4.heap.size := Nat.le_trans (by omega) hgr.size
  refine ⟨?_, ?_, ?_, ?_, by omega⟩
  · rw [List.replicate_succ', flat4_append, flat4_one]; exact ho
  · rw [kb _ (by omega) (hnb _ h1)]; exact h.row
  · exact PolAt.keep hsz (fun b hb hl => ⟨hb, kb b hl (hnb b hb.2)⟩) _ _ h.pol
  · exact h.bel.trans ⟨by rw [hgr.os]; rfl, by rw [hgr.tape]; rfl, by rw [hgr.output]; rfl, hsz, fun b hb => kb b (by have := h.bel.size; omega) (hnb b (by omega))⟩

set_option maxRecDepth 100000 in
set_option maxHeartbeats 8000000 in
theorem long_any5 (deep wide : Nat) (hd : deep ≤ 255) (hw : wide ≤ 65535) (w : World) (h : Env w) :
    Calls Tryz.prog 4 #[.int .u8 (deep : Int), .int .u16 (wide : Int)] w fun e w' => e = .returned (.bool true) ∧ Below w.heap.size w w' := by
  have cA := awake_any w h
  by_cases h1 : 40 < deep
  · have d1 : decide ((40 : Int) < (deep : Int)) = true := by simp; omega
    go_enter Tryz.func4, Tryz.ntmps4
    go_wp2_with fail
    refine cA.mono ?_
    rintro e w1 ⟨rfl, hb1⟩
    go_wp2
    go_ret
    exact ⟨rfl, hb1⟩
  by_cases h2 : wide < 2
  · have d1 : decide ((40 : Int) < (deep : Int)) = false := by simp; omega
    have d2 : decide ((wide : Int) < 2) = true := by simp; omega
    go_enter Tryz.func4, Tryz.ntmps4
    go_wp2_with fail
    refine cA.mono ?_
    rintro e w1 ⟨rfl, hb1⟩
    go_wp2
    go_ret
    exact ⟨rfl, hb1⟩
  by_cases h3 : 400 < wide
  · have d1 : decide ((40 : Int) < (deep : Int)) = false := by simp; omega
    have d2 : decide ((wide : Int) < 2) = false := by simp; omega
    have d3 : decide ((400 : Int) < (wide : Int)) = true := by simp; omega
    go_enter Tryz.func4, Tryz.ntmps4
    go_wp2_with fail
    refine cA.mono ?_
    rintro e w1 ⟨rfl, hb1⟩
    go_wp2
    go_ret
    exact ⟨rfl, hb1⟩
  have d1 : decide ((40 : Int) < (deep : Int)) = false := by simp; omega
  have d2 : decide ((wide : Int) < 2) = false := by simp; omega
  have d3 : decide ((400 : Int) < (wide : Int)) = false := by simp; omega
  have h1' : deep ≤ 40 := by omega
  have h2' : 2 ≤ wide := by omega
  have h3' : wide ≤ 400 := by omega
  clear h1 h2 h3 hd hw
  obtain ⟨i0, hi, hz0, hz1, hz2⟩ := info_parts info29
  go_enter Tryz.func4, Tryz.ntmps4
  go_wp2_with fail
  refine cA.mono ?_
  rintro e w1 ⟨rfl, hb1⟩
  have HB1 : Hid (Below w.heap.size w w1) := hb1
  clear hb1 cA h
  go_wp2_with fail
  go_loopw [23] (fun c wr => ∃ (k : Nat) (x : Nd), k ≤ deep ∧ c = .int .u8 (k : Int) ∧ wr.heap[w1.heap.size]? = some (pobj x) ∧ Hid (PolAt (fun b => w1.heap.size < b) wr (notN k) x) ∧ Hid (Below w.heap.size w wr)) (fun c _ => deep - (intOf c).toNat)
  case atStart => exact ⟨0, ⟨1, 0, 0, .slice none 0 0⟩, Nat.zero_le _, rfl, heap_alloc_new w1 _, PolAt.leaf _ _ _ _ _, HB1.out.alloc HB1.out.size _⟩
  case round =>
    obtain ⟨k, x, hk, rfl, hrow, HP, HB⟩ := hrel
    obtain ⟨-, -, -, sk, skc, hkv⟩ := HP.out.shape
    obtain ⟨xo, xf, xn, xk⟩ := x
    dsimp only at hkv
    subst hkv
    generalize (notN k).kids.length = kn at *
    obtain ⟨q0, q1, q2, q3⟩ := row4 hrow
    obtain ⟨f0, f1, f2, f3⟩ := frz4 hrow
    have hg := heap_lt hrow
    have HRow : Hid _ := hrow
    clear hrow
    by_cases hlt : k < deep
    · have dl : decide ((k : Int) < (deep : Int)) = true := by simp; omega
      have HR2 : Hid _ := row_set4 (.int .i64 4) (.int .i64 0) (.int .u16 0) (.slice (some ⟨wr.heap.size, 0, none⟩) 1 1) (pobj ⟨xo, xf, xn, .slice sk kn skc⟩) HRow.out
      have HP2 : Hid _ := not_more (w := w) HP.out hg (.int .i64 4) (.int .i64 0) (.int .u16 0) (.slice (some ⟨wr.heap.size, 0, none⟩) 1 1)
      have hbs := HB1.out.size
      have HB2 : Hid (Below w.heap.size w (((((wr.setCell ⟨w1.heap.size, 0, none⟩ (.int .i64 4)).setCell ⟨w1.heap.size, 1, none⟩ (.int .i64 0)).setCell ⟨w1.heap.size, 2, none⟩ (.int .u16 0)).setCell ⟨w1.heap.size, 3, none⟩ (.slice (some ⟨wr.heap.size, 0, none⟩) 1 1)).alloc (pobj ⟨xo, xf, xn, .slice sk kn skc⟩))) :=
        ((((HB.out.setCell hbs _).setCell hbs _).setCell hbs _).setCell hbs _).alloc (by have := HB.out.size; simpa [World.setCell] using this) _
      go_wp2
      go_roundw
      case rel => exact ⟨k + 1, ⟨4, 0, 0, .slice (some ⟨wr.heap.size, 0, none⟩) 1 1⟩, by omega, by go_num, HR2.out, HP2.out, HB2.out⟩
      case measure => simp [intOf]; omega
    · obtain rfl : k = deep := by omega
      have dl : decide ((k : Int) < (k : Int)) = false := by simp
      have HW0 : Hid (WSt w w1 wr k 0 ⟨xo, xf, xn, .slice sk kn skc⟩ (.slice none 0 0) wr) := ⟨World.ownsRow_nil _ _ _ _, HRow.out, HP.out.mono fun b hb hl => ⟨hb, hl⟩, HB.out, Nat.le_refl _⟩
      have hg1 := hg
      have hbs := HB1.out.size
      clear q0 q1 q2 q3 f0 f1 f2 f3 HRow HP HB
      obtain ⟨wp, rfl⟩ : ∃ wp, wp = wr := ⟨_, rfl⟩
      go_wp2_with fail
      go_loopw [6, 30] (fun v c wr2 => ∃ (j : Nat), j ≤ wide ∧ c = .int .u16 (j : Int) ∧ Hid (WSt w w1 wp k j ⟨xo, xf, xn, .slice sk kn skc⟩ v wr2)) (fun _ c _ => wide - (intOf c).toNat)
      case atStart => exact ⟨0, Nat.zero_le _, rfl, HW0⟩
      case round =>
        clear HW0
        obtain ⟨j, hj, rfl, HS⟩ := hrel
        by_cases hlt2 : j < wide
        · have dl2 : decide ((j : Int) < (wide : Int)) = true := by simp; omega
          have hown := HS.out.own
          have hsz := HS.out.siz
          go_wp2_with (at_builtin; refine wpList_append_own_at _ rfl _ _ 27 rfl wp.heap.size 29 i0 (nv ⟨0, 0, 0, .slice none 0 0⟩) 4 48 Tryz.underlying27 hi hz0 hz1 hz2 rfl (by decide) u6 _ _ rfl (hown.alloc _) ⟨wr.heap.size, 0, none⟩ 1 1 (enc4 idNd) rfl rfl (cell_new4 _ _ _ rfl) (enc4_one _ rfl) (by unfold maxLen; omega) (by omega) (by simp; omega) ?_; intro v4 w4 hown4 hgrow4 hnil4 hloc4)
          have HS4 : Hid (WSt w w1 wp k (j + 1) ⟨xo, xf, xn, .slice sk kn skc⟩ v4 w4) := HS.out.app hg1 hbs hown4 hgrow4
          clear hown4 hgrow4 hnil4 hloc4 hown
          go_wp2
          go_roundw
          case rel => exact ⟨j + 1, by omega, by go_num, HS4⟩
          case measure => simp [intOf]; omega
        · obtain rfl : j = wide := by omega
          have dl2 : decide ((j : Int) < (j : Int)) = false := by simp
          obtain ⟨sv, scv, rfl⟩ := own_shape HS.out.own
          obtain ⟨q0, q1, q2, q3⟩ := row4 HS.out.row
          have hgr := heap_lt HS.out.row
          -- the first look
          have hbA := (Below.refl _ wr).alloc (Nat.le_refl _) (.cells #[.int .u16 0] 26)
          have cC1 := check_any ⟨[0], notN k, []⟩ (.slice (some ⟨wr.heap.size, 0, none⟩) 1 1) ⟨xo, xf, xn, .slice sk kn skc⟩ (.slice none 0 0) (long_short _ (by rw [notN_size]; omega)) (wr.alloc (.cells #[.int .u16 0] 26)) ⟨⟨_, _, rfl⟩, HS.out.pol.below hbA, rules_nil _ _⟩
          rw [notN_check] at cC1
          have HBA : Hid (Below w.heap.size w (wr.alloc (.cells #[.int .u16 0] 26))) := HS.out.bel.alloc HS.out.bel.size _
          have HOA : Hid ((wr.alloc (.cells #[.int .u16 0] 26)).ownsRow wp.heap.size 29 4 (.slice sv j scv) (List.replicate j idNd).length (flat4 (List.replicate j idNd))) := by rw [List.length_replicate]; exact HS.out.own.alloc _
          have cC2 := fun W hW => check_any (P := fun b => wp.heap.size ≤ b) ⟨[0], .mk 6 0 0 (idsN j), []⟩ (.slice (some ⟨W, 0, none⟩) 1 1) ⟨6, 0, 0, .slice sv j scv⟩ (.slice none 0 0) (long_short _ (by rw [sizeP_mk, idsN_size]; omega)) hW
          rw [idsN_check j h2'] at cC2
          clear hbA
          obtain ⟨a, ea⟩ : ∃ a, (if k < 20 then 0 else 2 : Nat) = a := ⟨_, rfl⟩
          obtain ⟨b, eb⟩ : ∃ b, (if j < 300 then 0 else 2 : Nat) = b := ⟨_, rfl⟩
          rw [ea] at cC1
          rw [eb] at cC2
          have hA : (k < 20 ∧ a = 0) ∨ (¬ k < 20 ∧ a = 2) := by
            rw [← ea]; by_cases hk20 : k < 20 <;> simp [hk20]
          have hBb : (j < 300 ∧ b = 0) ∨ (¬ j < 300 ∧ b = 2) := by
            rw [← eb]; by_cases hk20 : j < 300 <;> simp [hk20]
          have HAa : Hid _ := hA
          have HBb : Hid _ := hBb
          clear hA hBb
          clear ea eb
          go_wp2_with fail
          refine cC1.mono ?_
          rintro e w5 ⟨rfl, hb5⟩
          have HB5 : Hid (Below w.heap.size w (w5.alloc (.cells #[.int .u16 0] 26))) := (HBA.out.trans (hb5.mono HBA.out.size)).alloc (HBA.out.trans (hb5.mono HBA.out.size)).size _
          have hO5 := own_below (own_below HOA.out hb5) ((Below.refl _ w5).alloc (Nat.le_refl _) (.cells #[.int .u16 0] 26))
          replace cC2 := cC2 w5.heap.size (w5.alloc (.cells #[.int .u16 0] 26)) ⟨⟨_, _, rfl⟩, by
            have := pol_of_own (Q := fun b => wp.heap.size ≤ b) 6 0 0 hO5 (ids_pols (fun b => wp.heap.size ≤ b) _ j) (fun _ h _ => h) (fun _ h => h)
            exact this, rules_nil _ _⟩
          clear hb5 hO5 cC1 HOA HBA q0 q1 q2 q3
          go_wp2_with fail
          refine cC2.mono ?_
          rintro e w6 ⟨rfl, hb6⟩
          have HB6 : Hid (Below w.heap.size w w6) := HB5.out.trans (hb6.mono HB5.out.size)
          clear hb6 cC2
          rcases HAa.out with ⟨hk20, rfl⟩ | ⟨hk20, rfl⟩
          · have d20 : decide ((k : Int) < 20) = true := by simp; omega
            rcases HBb.out with ⟨hj3, rfl⟩ | ⟨hj3, rfl⟩
            · have d300 : decide ((j : Int) < 300) = true := by simp; omega
              go_wp2
              go_ret
              exact ⟨rfl, HB6.out⟩
            · have d300 : decide ((j : Int) < 300) = false := by simp; omega
              go_wp2
              go_ret
              exact ⟨rfl, HB6.out⟩
          · have d20 : decide ((k : Int) < 20) = false := by simp; omega
            rcases HBb.out with ⟨hj3, rfl⟩ | ⟨hj3, rfl⟩
            · have d300 : decide ((j : Int) < 300) = true := by simp; omega
              go_wp2
              go_ret
              exact ⟨rfl, HB6.out⟩
            · have d300 : decide ((j : Int) < 300) = false := by simp; omega
              go_wp2
              go_ret
              exact ⟨rfl, HB6.out⟩
end Go.Proofs.YtipjmabeenhcgaaGreatDoor
