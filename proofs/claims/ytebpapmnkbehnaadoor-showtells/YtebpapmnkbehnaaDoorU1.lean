/- The laws' first look: the small program that awake asks for is shown as it should be; no conditions but what the row lists. -/
import Derived.Test.YtebpapmnkbehnaaDoorV7
import Derived.KernelRfl
set_option linter.unusedVariables false
set_option linter.unusedSimpArgs false
namespace Go.Proofs.YtebpapmnkbehnaaDoor
open Go.RowKit Go.Joins Go.Lib Go.Sort

def awT : Pl := .mk 6 0 0 [.mk 2 3 2 [], .mk 5 1 1 []]
def awG : Pg := ⟨[0], awT, []⟩
theorem aw_pol : polT awT = [100, 115, 116, 61, 50, 32, 59, 32, 112, 116, 58, 61, 49] := by decide +kernel
theorem aw_chk : checkM awG = 0 := by decide +kernel
theorem aw_prog : progT awG = [105, 110, 105, 116, 32, 48, 32, 46, 10, 112, 111, 108, 105, 99, 121, 32, 100, 115, 116, 61, 50, 32, 59, 32, 112, 116, 58, 61, 49, 32, 46, 10] := by decide +kernel
theorem aw_size : sizeP awT = 3 := by decide +kernel
theorem aw_ok : okN awT := by unfold awT; simp [okN, okN.okL]
theorem aw_n : PgN awG := ⟨aw_chk, by simp [awG], aw_ok, by simp [awG]⟩

abbrev awO1 : Obj := .cells #[.int .u16 0] 26
abbrev awO2 : Obj := .cells #[.int .i64 2, .int .i64 3, .int .u16 2, .slice none 0 0, .int .i64 5, .int .i64 1, .int .u16 1, .slice none 0 0] 29
abbrev awX (g : Nat) : Nd := ⟨6, 0, 0, .slice (some ⟨g, 0, none⟩) 2 2⟩
abbrev awW (w : World) : World := ((w.alloc awO1).alloc awO2).alloc (gobj (.slice (some ⟨w.heap.size, 0, none⟩) 1 1) (awX (w.heap.size + 1)) (.slice none 0 0))
theorem aw_below (w : World) : Below w.heap.size w (awW w) := (((Below.refl _ w).alloc (Nat.le_refl _) _).alloc (by simp) _).alloc (by simp; omega) _
theorem aw_row1 (w : World) : (awW w).heap[w.heap.size]? = some awO1 := by
  rw [Below.heap_alloc _ _ _ (by simp; omega), Below.heap_alloc _ _ _ (by simp)]
  exact heap_alloc_new w _
theorem aw_row2 (w : World) : (awW w).heap[w.heap.size + 1]? = some awO2 := by
  rw [Below.heap_alloc _ _ _ (by simp)]
  exact heap_new2 w _ _
theorem aw_row3 (w : World) : (awW w).heap[w.heap.size + 1 + 1]? = some (gobj (.slice (some ⟨w.heap.size, 0, none⟩) 1 1) (awX (w.heap.size + 1)) (.slice none 0 0)) := by
  have := heap_new2 (w.alloc awO1) awO2 (gobj (.slice (some ⟨w.heap.size, 0, none⟩) 1 1) (awX (w.heap.size + 1)) (.slice none 0 0))
  rw [show (w.alloc awO1).heap.size = w.heap.size + 1 by simp] at this
  exact this
theorem aw_nums (w : World) : NmAt (awW w) (.slice (some ⟨w.heap.size, 0, none⟩) 1 1) [0] := by
  refine ⟨_, 1, rfl, fun k hk => ⟨w.heap.size, 0, rfl, by simp; omega, ?_⟩⟩
  have hk0 : k = 0 := by simp at hk; exact hk
  subst hk0
  rw [cell_of_row _ _ _ _ _ _ (aw_row1 w)]
  rfl
theorem aw_at (w : World) : PolAt (fun _ => True) (awW w) awT (awX (w.heap.size + 1)) := by
  have hc : ∀ j, (awW w).cell? ⟨w.heap.size + 1, j, none⟩ = #[Value.int .i64 2, .int .i64 3, .int .u16 2, .slice none 0 0, .int .i64 5, .int .i64 1, .int .u16 1, .slice none 0 0][j]? := fun j => by
    rw [cell_of_row _ _ _ _ _ _ (aw_row2 w)]
  unfold awT PolAt
  refine ⟨rfl, rfl, rfl, some ⟨w.heap.size + 1, 0, none⟩, 2, rfl, fun _ => ⟨w.heap.size + 1, 0, rfl, trivial, by simp, ?_⟩⟩
  unfold PolAt.KidsAt
  refine ⟨⟨⟨2, 3, 2, .slice none 0 0⟩, ⟨hc 0, hc 1, hc 2, hc 3⟩, PolAt.leaf _ _ _ _ _⟩, ?_⟩
  unfold PolAt.KidsAt
  refine ⟨⟨⟨5, 1, 1, .slice none 0 0⟩, ⟨hc 4, hc 5, hc 6, hc 7⟩, PolAt.leaf _ _ _ _ _⟩, ?_⟩
  unfold PolAt.KidsAt
  trivial

set_option maxRecDepth 100000 in
set_option maxHeartbeats 4000000 in
theorem awake_any (w : World) (h : Es w) : Calls Tryd.prog 4 #[] w fun e w' => e = .returned (.bool true) ∧ Below w.heap.size w w' := by
  have hb0 := aw_below w
  have HB0 : Hid _ := hb0
  have cP := pol_show awT _ (by rw [aw_size]; decide) aw_ok (awW w) (aw_at w) (h.below hb0)
  have CG : Hid (∀ W, Below (awW w).heap.size (awW w) W → Calls Tryd.prog 9 #[pgv (.slice (some ⟨w.heap.size, 0, none⟩) 1 1) (awX (w.heap.size + 1)) (.slice none 0 0)] W fun e w' => e = .returned (.string ⟨(progT awG).toArray⟩) ∧ Below W.heap.size W w') := fun W hW =>
    program_text (P := fun _ => True) awG _ _ _ ⟨by simp [awG], by show sizeP awT ≤ _; rw [aw_size]; decide, by simp [awG], fun r hr => by cases hr⟩ (fun _ => aw_n) W ⟨⟨_, _, rfl⟩, (aw_at w).below hW, rules_none _ _⟩ ((aw_nums w).below hW) (h.below (hb0.trans (hW.mono hb0.size)))
  rw [aw_pol] at cP
  rw [aw_prog] at CG
  have HR : Hid _ := aw_row3 w
  clear h hb0
  go_enter Tryd.func4, Tryd.ntmps4
  go_wp2_with fail
  refine cP.mono ?_
  rintro e w1 ⟨rfl, hb1⟩
  obtain ⟨q0, q1, q2, q3, q4, q5⟩ := row6 ((hb1.block _ (heap_lt HR.out)).trans HR.out)
  have HB1 : Hid (Below w.heap.size w w1) := HB0.out.trans (hb1.mono HB0.out.size)
  have cG := CG.out w1 hb1
  clear hb1 cP CG HB0 HR
  go_wp2_with fail
  refine cG.mono ?_
  rintro e w2 ⟨rfl, hb2⟩
  have HB2 : Hid (Below w.heap.size w w2) := HB1.out.trans (hb2.mono HB1.out.size)
  clear hb2 cG q0 q1 q2 q3 q4 q5
  go_wp2
  go_ret
  exact ⟨rfl, HB2.out⟩
end Go.Proofs.YtebpapmnkbehnaaDoor
